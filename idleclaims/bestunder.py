"""The best dealing when idle pairs are waived."""

from idleclaims.asking import pupils_deal
from idleclaims.bookparts import struck_book
from idleclaims.checking import need
from idleclaims.idlechecks import need_waived
from idleclaims.kinds import is_pupil, is_set_below
from idleclaims.lastbook import idle_pairs


def best_under(book, waived):
    """The pupils' dealing of the book without the waived pairs."""
    need_waived(book, waived)
    return best_without(book, waived)


def place_under(book, waived, pupil):
    """The pupil's place in the best dealing under the waiver, or None."""
    need_waived(book, waived)
    need(is_pupil(book, pupil), "pupil")
    return dict(best_without(book, waived)).get(pupil)


def kept_by(book, waived, pupils):
    """Those of the pupils whose place stays if all their idle pairs are waived besides."""
    need_waived(book, waived)
    need(is_set_below(pupils, len(book[0])), "pupils")
    wider = [pair for pair in idle_pairs(book) if pair in waived or pair[0] in pupils]
    before = dict(best_without(book, waived))
    behind = dict(best_without(book, wider))
    return tuple([pupil for pupil in pupils if before.get(pupil) == behind.get(pupil)])


def best_without(book, pairs):
    """The best dealing if these idle pairs are waived, no parameter being judged."""
    return pupils_deal(struck_book(book, pairs))
