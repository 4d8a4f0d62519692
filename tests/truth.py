"""The definitions of the document, counted out by going through all dealings of small books.

Nothing here uses the program.
"""

from functools import lru_cache
from itertools import product


def pairs(book):
    return tuple(sorted((a, b) for a, wish in enumerate(book[0]) for b in wish))


def struck(book, gone):
    wishes = tuple(tuple(b for b in wish if (a, b) not in gone) for a, wish in enumerate(book[0]))
    rolls = tuple(tuple(a for a in roll if (a, b) not in gone) for b, roll in enumerate(book[1]))
    return (wishes, rolls, book[2])


def place(dealing, pupil):
    for a, b in dealing:
        if a == pupil:
            return b
    return None


def held(dealing, school):
    return [a for a, b in dealing if b == school]


def is_full(book, dealing, school):
    return len(held(dealing, school)) == book[2][school]


def likes(listed, one, other):
    """Does one stand ahead of other in the list, each ahead of None?"""
    if one is None:
        return False
    return other is None or listed.index(one) < listed.index(other)


def worst(book, dealing, school):
    return max(held(dealing, school), key=book[1][school].index)


@lru_cache(maxsize=None)
def dealings(book):
    """All dealings in the sequence of the document."""
    found = []
    for places in product(*[wish + (None,) for wish in book[0]]):
        if all(places.count(b) <= many for b, many in enumerate(book[2])):
            found.append(tuple((a, b) for a, b in enumerate(places) if b is not None))
    return tuple(found)


def pupil_wants(book, dealing, pair):
    a, b = pair
    return pair not in dealing and likes(book[0][a], b, place(dealing, a))


def school_wants(book, dealing, pair):
    a, b = pair
    if pair in dealing:
        return False
    return not is_full(book, dealing, b) or any(likes(book[1][b], a, c) for c in held(dealing, b))


@lru_cache(maxsize=None)
def claims(book, dealing):
    return tuple(p for p in pairs(book) if pupil_wants(book, dealing, p) and school_wants(book, dealing, p))


@lru_cache(maxsize=None)
def plains(book):
    return tuple(m for m in dealings(book) if not claims(book, m))


def gainers(book, dealing, other):
    """The pupils that like other more."""
    return tuple(
        a for a, wish in enumerate(book[0]) if likes(wish, place(other, a), place(dealing, a))
    )


@lru_cache(maxsize=None)
def top(book):
    """The plain dealing that no pupil likes less than another plain one."""
    found = [m for m in plains(book) if all(gainers(book, m, n) == () for n in plains(book))]
    assert len(found) == 1
    return found[0]


@lru_cache(maxsize=None)
def bottom(book):
    """The plain dealing that no pupil likes more than another plain one."""
    found = [m for m in plains(book) if all(gainers(book, n, m) == () for n in plains(book))]
    assert len(found) == 1
    return found[0]


def union(masks):
    found = 0
    for mask in masks:
        found |= mask
    return found


@lru_cache(maxsize=None)
def hearing(book, waived=()):
    """For each dealing (won, moves): the hearing played backwards, waived pairs not counting in naming."""
    number = {p: 1 << k for k, p in enumerate(pairs(book))}
    has = {m: sum(number[p] for p in m) for m in dealings(book)}
    against = {m: sum(number[p] for p in claims(book, m) if p not in waived) for m in dealings(book)}
    told = {}
    moves = 0
    newly = [m for m in dealings(book) if against[m] == 0]
    told.update({m: (False, 0) for m in newly})
    while newly:
        moves += 1
        # A dealing of some may be named exactly if a pair of theirs claims.
        lost_before = union(has[m] for m in newly if told[m] == (False, moves - 1))
        not_won = union(has[m] for m in dealings(book) if not told.get(m, (False, 0))[0])
        open_ones = [m for m in dealings(book) if m not in told]
        won = [m for m in open_ones if against[m] & lost_before]
        lost = [m for m in open_ones if not against[m] & not_won]
        assert not set(won).intersection(lost)
        told.update({m: (True, moves) for m in won})
        told.update({m: (False, moves) for m in lost})
        newly = won + lost
    assert len(told) == len(dealings(book))
    return told


@lru_cache(maxsize=None)
def rightfuls(book):
    return tuple(m for m in dealings(book) if not hearing(book)[m][0])


@lru_cache(maxsize=None)
def rightful_pairs(book):
    return tuple(sorted({p for m in rightfuls(book) for p in m}))


@lru_cache(maxsize=None)
def idle_pairs(book):
    return tuple(p for p in pairs(book) if p not in rightful_pairs(book))


@lru_cache(maxsize=None)
def kind(book, pair):
    """The kind of the pair by the words of the document; exactly one must apply."""
    found = []
    if any(pair in m for m in plains(book)):
        found.append("plain")
    else:
        if all(pupil_wants(book, m, pair) for m in plains(book)):
            found.append("rise")
        if all(school_wants(book, m, pair) for m in plains(book)):
            found.append("fall")
    if any(is_cold(book, m, pair) for m in plains(book)):
        found.append("cold")
    assert len(found) == 1
    return found[0]


def is_cold(book, dealing, pair):
    return pair not in dealing and not pupil_wants(book, dealing, pair) and not school_wants(book, dealing, pair)


@lru_cache(maxsize=None)
def loose(book):
    plain_pairs = {p for m in plains(book) for p in m}
    return tuple(
        p
        for p in pairs(book)
        if all(plain_pairs.intersection(claims(book, m)) for m in dealings(book) if p in m)
    )


def next_school(book, plain, pupil):
    here = place(plain, pupil)
    if here is None:
        return None
    wish = book[0][pupil]
    behind = [b for b in wish if likes(wish, here, b) and school_wants(book, plain, (pupil, b))]
    return behind[0] if behind else None


def points_to(book, plain, pupil):
    b = next_school(book, plain, pupil)
    if b is None or not is_full(book, plain, b):
        return None
    return worst(book, plain, b)


def turnings(book, plain):
    found = set()
    for a in range(len(book[0])):
        ring = [a]
        while points_to(book, plain, ring[-1]) not in [None] + ring:
            ring.append(points_to(book, plain, ring[-1]))
        if points_to(book, plain, ring[-1]) == a:
            least = ring.index(min(ring))
            found.add(tuple(ring[least:] + ring[:least]))
    return tuple(sorted(found))


def turned(book, plain, turning):
    moves = {a: next_school(book, plain, a) for a in turning}
    return tuple(sorted((a, moves.get(a, b)) for a, b in plain))


def rises(book, plain):
    return tuple(p for p in pairs(book) if pupil_wants(book, plain, p))


def falls(book, plain):
    return tuple(p for p in pairs(book) if school_wants(book, plain, p))


def rise_arrows(book, plain):
    found = {(place(plain, a), b) for a, b in rises(book, plain) if place(plain, a) is not None}
    return tuple(sorted(found))


def fall_arrows(book, plain):
    found = set()
    for a, b in falls(book, plain):
        here = place(plain, a)
        if here is not None and likes(book[0][a], here, b):
            if is_full(book, plain, here) and is_full(book, plain, b):
                found.add((here, b))
    return tuple(sorted(found))


def told_heights(many, arrows):
    leads = {(b, b) for b in range(many)} | set(arrows)
    for middle in range(many):
        for start in range(many):
            for end in range(many):
                if (start, middle) in leads and (middle, end) in leads:
                    leads.add((start, end))
    return tuple(sum((start, end) in leads for start in range(many)) for end in range(many))


def followers(book, plain, school):
    if not is_full(book, plain, school):
        return ()
    least = worst(book, plain, school)
    return tuple(
        b
        for b in range(len(book[1]))
        if b in book[0][least]
        and is_full(book, plain, b)
        and school_wants(book, plain, (least, b))
        and likes(book[0][least], school, b)
    )


def told_ranks(book, plain):
    many = len(book[1])
    ranks = [None] * many
    for _ in range(many + 1):
        for b in range(many):
            numbers = [ranks[other] for other in followers(book, plain, b)]
            if None not in numbers:
                ranks[b] = max(numbers) + 1 if numbers else 0
    return tuple(ranks)


def are_heights(many, arrows, thing):
    return (
        type(thing) is tuple
        and len(thing) == many
        and all(type(height) is int and height >= 0 for height in thing)
        and all(thing[start] <= thing[end] for start, end in arrows)
    )


def are_ranks(book, plain, thing):
    if type(thing) is not tuple or len(thing) != len(book[1]):
        return False
    if not all(rank is None or type(rank) is int and rank >= 0 for rank in thing):
        return False
    for b, rank in enumerate(thing):
        for other in followers(book, plain, b):
            if rank is not None and (thing[other] is None or thing[other] >= rank):
                return False
    return True


def strikes(book, plain, reason, marks, pair):
    """Does the reason with these marks strike the pair at this plain dealing?"""
    a, b = pair
    if pair in plain:
        return False
    here = place(plain, a)
    if reason == "cold":
        return is_cold(book, plain, pair)
    if reason == "up":
        return pupil_wants(book, plain, pair) and (here is None or marks[b] > marks[here])
    if not school_wants(book, plain, pair) or not likes(book[0][a], here, b):
        return False
    if reason == "rank":
        return marks[b] is not None
    if not is_full(book, plain, b) or not is_full(book, plain, here):
        return True
    return marks[b] > marks[here]


def struck_pairs(book, plain, reason, marks):
    return tuple(p for p in pairs(book) if strikes(book, plain, reason, marks, p))


@lru_cache(maxsize=None)
def told_reasons(book):
    """For each told pair the tuple of the reasons that strike it as point 10 says."""
    many = len(book[1])
    high, low = top(book), bottom(book)
    rising = told_heights(many, rise_arrows(book, high))
    falling = told_heights(many, fall_arrows(book, low))
    ranks = told_ranks(book, low)
    found = {}
    for p in pairs(book):
        reasons = []
        if any(strikes(book, m, "cold", (), p) for m in plains(book)):
            reasons.append("cold")
        if strikes(book, high, "up", rising, p):
            reasons.append("up")
        if strikes(book, low, "down", falling, p):
            reasons.append("down")
        if strikes(book, low, "rank", ranks, p):
            reasons.append("rank")
        if reasons:
            found[p] = tuple(reasons)
    return found


def told(book):
    return tuple(sorted(told_reasons(book)))


@lru_cache(maxsize=None)
def ladder(book):
    levels = [book]
    while told(levels[-1]):
        levels.append(struck(levels[-1], told(levels[-1])))
    return tuple(levels)


def is_set_of_pairs(book, thing):
    return type(thing) is tuple and list(thing) == sorted(set(thing)) and all(p in pairs(book) for p in thing)


def left_by_steps(book, rows):
    """The book left by rows that are accepted as point 49 says; an AssertionError if they are not."""
    assert type(rows) is tuple
    left = book
    for row in rows:
        assert type(row) is tuple and len(row) == 4
        reason, dealing, marks, gone = row
        assert type(dealing) is tuple and type(marks) is tuple and type(gone) is tuple and gone != ()
        assert is_dealing(left, dealing) and not claims(left, dealing)
        if reason == "cold":
            assert marks == ()
        elif reason == "up":
            assert are_heights(len(left[1]), rise_arrows(left, dealing), marks)
        elif reason == "down":
            assert are_heights(len(left[1]), fall_arrows(left, dealing), marks)
        else:
            assert reason == "rank" and are_ranks(left, dealing, marks)
        assert is_set_of_pairs(left, gone)
        assert all(strikes(left, dealing, reason, marks, p) for p in gone)
        left = struck(left, gone)
    return left


def is_dealing(book, thing):
    if not is_set_of_pairs(book, thing):
        return False
    pupils = [a for a, _ in thing]
    return len(pupils) == len(set(pupils)) and all(
        len(held(thing, b)) <= many for b, many in enumerate(book[2])
    )


def best(book):
    """The rightful dealing that no pupil likes less than another rightful one."""
    found = [m for m in rightfuls(book) if all(gainers(book, m, n) == () for n in rightfuls(book))]
    assert len(found) == 1
    return found[0]


def worst_rightful(book):
    found = [m for m in rightfuls(book) if all(gainers(book, n, m) == () for n in rightfuls(book))]
    assert len(found) == 1
    return found[0]


def asked_by_pupils(book, order):
    """Pupils ask, the first one in order that can: the dealing, and the refused pairs."""
    refused, asking = set(), {}

    def options(a):
        return [b for b in book[0][a] if (a, b) not in refused]

    while True:
        ready = [a for a in order if a not in asking and options(a)]
        if not ready:
            return (tuple(sorted(asking.items())), tuple(sorted(refused)))
        b = options(ready[0])[0]
        asking[ready[0]] = b
        there = [a for a in asking if asking[a] == b]
        if len(there) > book[2][b]:
            out = max(there, key=book[1][b].index)
            del asking[out]
            refused.add((out, b))


def asked_by_schools(book, order):
    """Schools ask, the first one in order that can: the dealing, and the refused pairs."""
    asked, refused, keeping = set(), set(), {}

    def options(b):
        return [a for a in book[1][b] if (a, b) not in asked]

    while True:
        ready = [b for b in order if list(keeping.values()).count(b) < book[2][b] and options(b)]
        if not ready:
            return (tuple(sorted(keeping.items())), tuple(sorted(refused)))
        b = ready[0]
        a = options(b)[0]
        asked.add((a, b))
        offers = [b] + ([keeping[a]] if a in keeping else [])
        keeping[a] = min(offers, key=book[0][a].index)
        refused.update((a, other) for other in offers if other != keeping[a])
