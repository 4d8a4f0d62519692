"""What wins from a dealing."""

from idleclaims.outcomes import level_and_answer


def winning_answer(book, dealing):
    """On the walk of the winning level the first dealing with a pair that claims; None for a lost dealing."""
    _, answer = level_and_answer(book, dealing)
    return answer
