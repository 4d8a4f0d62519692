"""Papers that show that a dealing is lost, or won, and in how many moves at most."""

from idleclaims.verdicts import let_verdict, verdict_paper


def court_paper(book, dealing):
    """A paper that shows what the dealing is."""
    return verdict_paper(book, dealing, "lost", "won")


def lets_court(book, dealing, thing):
    """Is the dealing won, and in how many moves at most it is won or lost, as the paper shows."""
    stands = let_verdict(book, dealing, thing, "lost", "won")
    many = len(thing[1])
    return (False, 2 * many) if stands else (True, 2 * many + 1)
