"""Idleclaims: placements in which only claims that stand up themselves are heard."""
