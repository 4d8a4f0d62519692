"""Papers that show that a dealing is rightful, or that a rightful pair claims against it."""

from idleclaims.verdicts import let_verdict, verdict_paper


def dealing_paper(book, dealing):
    """A paper that shows what the dealing is."""
    return verdict_paper(book, dealing, "rightful", "claimed")


def lets_dealing_paper(book, dealing, thing):
    """What the paper shows of the dealing: "rightful" or "claimed"."""
    return "rightful" if let_verdict(book, dealing, thing, "rightful", "claimed") else "claimed"
