"""Towns: the parts of a book that no pair joins."""

from idleclaims.checking import need
from idleclaims.kinds import is_set_below


def towns_of(book):
    """The towns, those with pupils by their least pupil, then the schools that nobody lists."""
    towns = []
    known = {}
    for pupil in range(len(book[0])):
        if pupil not in known:
            town = _town_from(book, pupil)
            towns.append(town)
            known.update({other: True for other in town[0]})
    alone = [((), (school,)) for school, roll in enumerate(book[1]) if not roll]
    return tuple(towns + alone)


def town_book(book, pupils, schools):
    """The book of these pupils and schools alone, counted anew."""
    need(is_set_below(pupils, len(book[0])), "pupils")
    need(is_set_below(schools, len(book[1])), "schools")
    wishes = [_counted_anew(book[0][pupil], schools) for pupil in pupils]
    rolls = [_counted_anew(book[1][school], pupils) for school in schools]
    return (tuple(wishes), tuple(rolls), tuple([book[2][school] for school in schools]))


def _town_from(book, pupil):
    """The set of the pupils and that of the schools to which this pupil leads."""
    wishes, rolls, _ = book
    pupils, schools = [pupil], []
    at = 0
    while at < len(pupils):
        wish = wishes[pupils[at]]
        for school in wish:
            if school not in schools:
                schools.append(school)
                pupils.extend([other for other in rolls[school] if other not in pupils])
        at += 1
    return (tuple(sorted(pupils)), tuple(sorted(schools)))


def _counted_anew(listed, kept):
    return tuple([kept.index(number) for number in listed if number in kept])
