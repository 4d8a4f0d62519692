"""Pupils ask, or schools ask: what stands at the end, and who was refused."""

from idleclaims.askers import PupilsAsking, SchoolsAsking, ask_all, standing


def pupils_deal(book):
    """What stands when pupils ask and nobody has anything left to ask."""
    asking = PupilsAsking(book)
    ask_all(asking, len(book[0]))
    return standing(asking)


def schools_deal(book):
    """What stands when schools ask and nobody has anything left to ask."""
    asking = SchoolsAsking(book)
    ask_all(asking, len(book[1]))
    return standing(asking)


def refused_asked(book):
    """The set of the pairs whose school refuses the pupil when pupils ask."""
    return ask_all(PupilsAsking(book), len(book[0]))


def refused_asking(book):
    """The set of the pairs whose pupil refuses the school when schools ask."""
    return ask_all(SchoolsAsking(book), len(book[1]))
