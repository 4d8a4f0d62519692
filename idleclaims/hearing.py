"""The hearing of a book, played backwards over all its dealings."""

from idleclaims.numbering import all_dealings
from idleclaims.waivers import claims_besides


def hearing_table(book, waived):
    """For each dealing, in sequence, is it won, and its moves, if these pairs do not count in naming."""
    dealings = list(all_dealings(book))
    against = [claims_besides(book, waived, dealing) for dealing in dealings]
    told = {}
    moves = 0
    while len(told) < len(dealings):
        told.update(_told_with(dealings, against, told, moves))
        moves += 1
    return tuple([told[k] for k in range(len(dealings))])


def _told_with(dealings, against, told, moves):
    """The dealings with so many moves; told are those with fewer."""
    # One of some dealings can be named exactly if a pair of theirs claims: the pairs stand for them. What can
    # be answered by a dealing that was lost earlier is told already, so that only the last lost ones count.
    last_lost = [dealing for k, dealing in enumerate(dealings) if told.get(k) == (False, moves - 1)]
    not_told = [dealing for k, dealing in enumerate(dealings) if k not in told]
    losing, doubtful = _pairs_of_all(last_lost), _pairs_of_all(not_told)
    fresh = {}
    for k, pairs in enumerate(against):
        if k not in told:
            if any(pair in losing for pair in pairs):
                fresh[k] = (True, moves)
            elif not any(pair in doubtful for pair in pairs):
                fresh[k] = (False, moves)
    return fresh


def _pairs_of_all(dealings):
    return {pair: True for dealing in dealings for pair in dealing}
