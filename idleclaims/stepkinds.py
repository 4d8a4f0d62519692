"""The form of the rows by which pairs are struck."""

REASONS = ("cold", "up", "down", "rank")


def is_row(thing):
    """Is thing a quadruple (reason, dealing, marks, pairs) of the right form?"""
    if not isinstance(thing, tuple) or len(thing) != 4:
        return False
    reason, dealing, marks, pairs = thing
    if reason not in REASONS or not all(isinstance(part, tuple) for part in (dealing, marks, pairs)):
        return False
    return pairs != () and (reason != "cold" or marks == ())
