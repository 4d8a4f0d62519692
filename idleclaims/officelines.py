"""What an office tells the pupils, as lines."""

from idleclaims.best import best_deal
from idleclaims.bestunder import best_without
from idleclaims.idlechecks import need_waived


def office_lines(book, waived):
    """For each pupil its place under the waiver, its best rightful place, and what it waives."""
    need_waived(book, waived)
    has = dict(best_without(book, waived))
    could = dict(best_deal(book))
    lines = []
    for pupil in range(len(book[0])):
        schools = [school for other, school in waived if other == pupil]
        here, best = _told(_as_list(has.get(pupil))), _told(_as_list(could.get(pupil)))
        lines.append(f"pupil {pupil} has {here} could {best} waives {_told(schools)}")
    return tuple(lines)


def _as_list(place):
    return [] if place is None else [place]


def _told(schools):
    return " ".join([str(school) for school in schools]) or "-"
