"""All examples of the document, one after the other, as they stand there."""

import re

from tests.support import Case, is_exactly

EXAMPLES = """
>>> FOUR = (((1, 2, 0), (0, 1), (0, 2), (0, 3)), ((0, 3, 1, 2), (1, 0), (2, 0), (3,)), (1, 1, 1, 1))
>>> STILL, BEST = ((0, 0), (1, 1), (2, 2), (3, 3)), ((0, 1), (1, 0), (2, 2), (3, 3))
>>> TWO = (((1, 0), (0,), (0, 1)), ((0, 1, 2), (2, 0)), (2, 1))
>>> ODD = (((1, 0), (0, 1)), ((0, 1), (1, 0)), (1, 1))

>>> from idleclaims.bookchecker import lets_book
>>> lets_book((((0,),), ((),), (1,)))
raises InvalidPaper(word='sided', at=(0, 0))

>>> from idleclaims.books import likes_pupil
>>> likes_pupil(FOUR, 0, 1, 3)
False

>>> from idleclaims.makers import renamed
>>> renamed(TWO, (0, 1, 2), (1, 0))
(((0, 1), (1,), (1, 0)), ((2, 0), (0, 1, 2)), (1, 2))

>>> from idleclaims.towns import town_book
>>> town_book(TWO, (0, 2), (1,))
(((0,), (0,)), ((1, 0),), (1,))

>>> from idleclaims.towers import tower
>>> tower(1)
(((1, 0), (0, 1), (0, 2)), ((0, 2, 1), (1, 0), (2,)), (1, 1, 1))

>>> from idleclaims.dealings import places_of, free_seats, moved
>>> SOME = ((0, 1), (1, 0))
>>> [places_of(TWO, SOME), free_seats(TWO, SOME, 0), moved(TWO, SOME, ((0, 0), (2, 1)))]
[(1, 0, None), 1, ((0, 0), (1, 0), (2, 1))]

>>> from idleclaims.numbering import all_dealings, number_of
>>> list(all_dealings(ODD))
[((0, 1), (1, 0)), ((0, 1),), ((0, 0), (1, 1)), ((0, 0),), ((1, 0),), ((1, 1),), ()]
>>> number_of(ODD, ())
6

>>> from idleclaims.wanting import claims_against
>>> claims_against(FOUR, BEST)
((3, 0),)

>>> from idleclaims.booklines import read_dealing
>>> read_dealing(TWO, '0-1 0-0')
raises InvalidRow(row=1)

>>> from idleclaims.bookclasses import Book
>>> box = Book(((0,),), ((0,),), (1,))
>>> [box.beside(box).how_many(), box.claims(())]
[(2, 2), ((0, 0),)]

>>> LESS = (((1, 2, 0), (0, 1), (0, 2), (3,)), ((0, 1, 2), (1, 0), (2, 0), (3,)), (1, 1, 1, 1))
>>> NARROW = (((0, 1), (0,)), ((0, 1), (0,)), (1, 1))
>>> TWICE = (((1, 0), (0, 1), (3, 2), (2, 3)), ((0, 1), (1, 0), (2, 3), (3, 2)), (1, 1, 1, 1))

>>> from idleclaims.asking import pupils_deal, schools_deal, refused_asked, refused_asking
>>> [pupils_deal(ODD), schools_deal(ODD)]
[((0, 1), (1, 0)), ((0, 0), (1, 1))]
>>> [refused_asked(FOUR), refused_asking(FOUR)]
[((0, 1), (0, 2), (1, 0), (2, 0), (3, 0)), ()]

>>> from idleclaims.diaries import pupils_diary, schools_diary
>>> pupils_diary(NARROW, (1, 0))
((1, 0, None), (0, 0, 1))
>>> [schools_diary(NARROW, (0, 1)), schools_diary(NARROW, (1, 0))]
[((0, 0, None), (0, 1, 1)), ((0, 1, None), (0, 0, 1))]

>>> from idleclaims.diaries import lets_pupils_diary, lets_schools_diary
>>> [lets_pupils_diary(NARROW, ((0, 0, None), (1, 0, 1))), lets_schools_diary(NARROW, ((0, 0, None), (0, 1, 1)))]
[((0, 0),), ((0, 0),)]
>>> lets_pupils_diary(NARROW, ((0, 0, None),))
raises InvalidPaper(word='open', at=1)
>>> lets_schools_diary(NARROW, ((0, 0, None), (1, 0, None)))
raises InvalidPaper(word='asker', at=1)

>>> from idleclaims.placed import placed_pupils, filled, fixed_schools
>>> [placed_pupils(NARROW), filled(NARROW), fixed_schools(NARROW)]
[(0,), (1, 0), (1,)]

>>> from idleclaims.turning import next_school, points_to, turnings_at, turned
>>> [next_school(LESS, BEST, 0), points_to(LESS, BEST, 0)]
[0, 1]
>>> [next_school(NARROW, ((0, 0),), 0), points_to(NARROW, ((0, 0),), 0)]
[1, None]
>>> [turnings_at(LESS, BEST), turned(LESS, BEST, (0, 1))]
[((0, 1),), ((0, 0), (1, 1), (2, 2), (3, 3))]
>>> turned(LESS, BEST, (1, 0))
raises NotUsable(word='turning', at=-1)
>>> turnings_at(LESS, ((0, 0), (1, 1), (3, 3)))
raises NotPlain(pair=(0, 2))

>>> from idleclaims.walks import walk_of, all_plain, how_many_plain, lets_walk
>>> walk_of(LESS)
(((0, 1), (1, 0), (2, 2), (3, 3)), ((0, 0), (1, 1), (2, 2), (3, 3)))
>>> all_plain(ODD)
(((0, 1), (1, 0)), ((0, 0), (1, 1)))
>>> [how_many_plain(TWICE), lets_walk(TWICE, walk_of(TWICE))]
[4, 2]
>>> lets_walk(LESS, (BEST,))
raises InvalidPaper(word='last', at=0)

>>> from idleclaims.pairkinds import kind_of, kinds_of
>>> [kind_of(FOUR, (0, 2)), kind_of(LESS, (0, 2))]
['rise', 'cold']
>>> kinds_of(NARROW)
(((0, 0),), ((1, 0),), ((0, 1),), ())

>>> from idleclaims.showing import plain_with, cold_at
>>> [plain_with(LESS, (1, 1)), cold_at(LESS, (0, 2)), cold_at(LESS, (2, 0))]
[((0, 0), (1, 1), (2, 2), (3, 3)), ((0, 1), (1, 0), (2, 2), (3, 3)), None]

>>> from idleclaims.between import better_plain, worse_plain
>>> one, two = ((0, 1), (1, 0), (2, 2), (3, 3)), ((0, 0), (1, 1), (2, 3), (3, 2))
>>> [better_plain(TWICE, one, two), worse_plain(TWICE, one, two)]
[((0, 1), (1, 0), (2, 3), (3, 2)), ((0, 0), (1, 1), (2, 2), (3, 3))]

>>> from idleclaims.plainclasses import Plain
>>> one = Plain(TWICE)
>>> [one.turnings(), one.turn((2, 3)), one.turnings(), len(one.gone())]
[((0, 1), (2, 3)), ((0, 1), (1, 0), (2, 2), (3, 3)), ((0, 1),), 2]

>>> from idleclaims.exchange import exchanged
>>> exchanged(FOUR, STILL, ((0, 0),))
raises Claimed(pair=(1, 1))

>>> from idleclaims.exchangekinds import given_and_got, is_exchange
>>> ABOVE, BELOW = ((0, 1), (1, 0), (2, 0)), ((0, 0), (1, 0), (2, 1))
>>> [given_and_got(TWO, ABOVE, BELOW, (0,)), is_exchange(TWO, ABOVE, BELOW)]
[((0, 1), (1, 0)), (True, True, True, True, True)]
>>> is_exchange(FOUR, STILL, ((0, 0),))
(True, True, False, False, True)

>>> from idleclaims.exchangerings import led
>>> led(FOUR, STILL, ((1, 0), (0, 1)))
((0, 1), (1, 0), (2, 2), (3, 3))

>>> from idleclaims.arrows import falls_at, rise_arrows
>>> [falls_at(TWO, ABOVE), rise_arrows(FOUR, STILL)]
[((0, 0), (2, 1)), ((0, 1), (0, 2), (1, 0), (2, 0), (3, 0))]

>>> from idleclaims.heights import told_heights, lets_heights
>>> UP = ((0, 1), (0, 2), (1, 0), (2, 0), (3, 0))
>>> [told_heights(FOUR, UP), lets_heights(FOUR, UP, (1, 1, 1, 2))]
[(4, 4, 4, 1), False]

>>> from idleclaims.rings import rise_ring, fall_ring
>>> [rise_ring(FOUR, STILL, (0, 1)), rise_ring(FOUR, STILL, (3, 0)), fall_ring(TWO, ABOVE, (2, 1))]
[((0, 1), (1, 0)), None, ((2, 1), (0, 0))]

>>> from idleclaims.makers import sides_changed, without_pairs
>>> from idleclaims.ranks import followers_of, told_ranks
>>> SIDES = sides_changed(FOUR)
>>> [followers_of(SIDES, STILL, 0), told_ranks(SIDES, STILL)]
[(1, 2, 3), (None, None, None, 0)]

>>> from idleclaims.reasons import struck_up, struck_down
>>> [struck_up(FOUR, STILL, (0, 0, 0, 0)), struck_down(SIDES, STILL, (3, 3, 3, 4))]
[(), ((0, 3),)]

>>> from idleclaims.loose import told_pairs, told_by
>>> NEXT = without_pairs(FOUR, ((3, 0),))
>>> [told_pairs(NEXT), told_by(NEXT, (0, 2)), told_by(SIDES, (0, 3))]
[((0, 2), (2, 0)), 'cold', 'down']

>>> from idleclaims.unclaimed import at_once, open_with
>>> [at_once(FOUR, BEST), open_with(FOUR, (2, 0)), open_with(FOUR, (3, 0))]
[None, ((0, 2), (1, 1), (2, 0), (3, 3)), None]

>>> from idleclaims.reasonclasses import Standing
>>> [Standing(FOUR, STILL).struck(), Standing(SIDES, STILL).reasons_for((0, 3))]
[((), ((3, 0),), (), ()), ('down', 'rank')]

>>> from idleclaims.striking import strike_all, struck_by, is_end
>>> strike_all(FOUR, ((3, 0),))
(((1, 2, 0), (0, 1), (0, 2), (3,)), ((0, 1, 2), (1, 0), (2, 0), (3,)), (1, 1, 1, 1))
>>> strike_all(FOUR, ((2, 0), (3, 0)))
raises NotTold(pair=(2, 0))

>>> [struck_by(FOUR, ()), struck_by(FOUR, (5, 1)), is_end(TWO)]
[((3, 0), (0, 2), (2, 0)), ((3, 0), (2, 0), (0, 2)), True]

>>> from idleclaims.ladder import how_many_levels, level_of
>>> [how_many_levels(FOUR), level_of(FOUR, (3, 0)), level_of(FOUR, (2, 0)), level_of(FOUR, (0, 1))]
[2, 0, 1, None]

>>> from idleclaims.lastbook import last_book, idle_pairs
>>> last_book(FOUR)
(((1, 0), (0, 1), (2,), (3,)), ((0, 1), (1, 0), (2,), (3,)), (1, 1, 1, 1))
>>> [idle_pairs(FOUR), idle_pairs(ODD)]
[((0, 2), (2, 0), (3, 0)), ()]

>>> from idleclaims.lastchecks import lets_last, is_between
>>> [lets_last(FOUR, FOUR), is_between(FOUR, ODD)]
[False, False]
>>> lets_last(FOUR, (((2, 0), (0, 1), (2,), (3,)), ((0, 1), (1,), (2, 0), (3,)), (1, 1, 1, 1)))
raises InvalidPaper(word='lacking', at=(0, 1))

>>> from idleclaims.stepchecker import lets_steps
>>> WAY = ('up', STILL, (4, 4, 4, 1), ((3, 0),)), ('cold', BEST, (), ((0, 2),)), ('up', BEST, (2, 0, 1, 7), ((2, 0),))
>>> lets_steps(FOUR, WAY) == last_book(FOUR)
True
>>> lets_steps(FOUR, (('up', STILL, (4, 4, 4, 1), ((0, 1), (3, 0))),))
raises InvalidPaper(word='pair', at=(0, 0))
>>> lets_steps((((0, 1),), ((0,), (0,)), (1, 1)), (('rank', ((0, 0),), (None, 3), ((0, 1),)),))
(((0,),), ((0,), ()), (1, 1))

>>> from idleclaims.pairpapers import lets_pair_paper
>>> [lets_pair_paper(FOUR, (2, 0), ('idle', WAY)), lets_pair_paper(FOUR, (0, 1), ('rightful', WAY[:1], BEST))]
['idle', 'rightful']
>>> lets_pair_paper(FOUR, (0, 1), ('rightful', (), STILL))
raises InvalidPaper(word='held', at=-1)

>>> from idleclaims.lastpapers import lets_last_paper
>>> lets_last_paper(FOUR, (WAY, (BEST,)))
raises InvalidPaper(word='uncovered', at=(0, 0))

>>> from idleclaims.ladderclasses import Ladder
>>> box = Ladder(FOUR)
>>> [box.go_down(), box.go_down(), box.go_down(), box.has_ended(), box.struck()]
[((3, 0),), ((0, 2), (2, 0)), (), True, (((3, 0),), ((0, 2), (2, 0)))]
>>> box.back(3)
raises NothingToUndo(steps=2)

>>> from idleclaims.rightful import rightful_level
>>> [rightful_level(FOUR, STILL), rightful_level(FOUR, BEST), rightful_level(FOUR, ())]
[0, 1, None]

>>> from idleclaims.rightful import all_rightful
>>> all_rightful(FOUR)
(((0, 1), (1, 0), (2, 2), (3, 3)), ((0, 0), (1, 1), (2, 2), (3, 3)))

>>> from idleclaims.objections import objecting_pairs, objection_to
>>> SWAP = ((0, 2), (1, 1), (2, 0), (3, 3))
>>> [objecting_pairs(FOUR, SWAP), objection_to(FOUR, SWAP) == ((1, 0), BEST)]
[((1, 0),), True]

>>> from idleclaims.joining import down_from
>>> down_from(FOUR, BEST) == (BEST, STILL)
True

>>> from idleclaims.best import best_deal, worst_deal
>>> [best_deal(TWO), worst_deal(TWO)]
[((0, 1), (1, 0), (2, 0)), ((0, 0), (1, 0), (2, 1))]

>>> from idleclaims.best import best_by_rises
>>> best_by_rises(FOUR)
((((3, 0),), ((2, 0),)), ((0, 1), (1, 0), (2, 2), (3, 3)))

>>> from idleclaims.waste import wasted_ring, is_wasteful
>>> [is_wasteful(FOUR), is_wasteful(TWO), wasted_ring(ODD, ((0, 1), (1, 0)))]
[True, False, None]

>>> from idleclaims.gains import gains_of, gain_rings
>>> [gains_of(FOUR), len(gain_rings(FOUR)), sorted(gain_rings(FOUR)[0])]
[((0, 0, 1), (1, 1, 0)), 1, [(0, 1), (1, 0)]]

>>> from idleclaims.sameplaced import filled_rightful, free_held
>>> [filled_rightful(TWO), free_held(TWO), free_held(TWO[:2] + ((3, 1),))]
[(2, 1), (), ((0, (1, 2)),)]

>>> from idleclaims.bestpapers import lets_best
>>> lets_best(ODD, ((), ((0, 0), (1, 1))))
raises InvalidPaper(word='first', at=0)

>>> from idleclaims.wastepapers import lets_waste
>>> lets_waste(FOUR, STILL, ('ring', ((0, 2), (2, 0))))
True

>>> from idleclaims.notpapers import lets_dealing_paper
>>> ROWS = (('up', STILL, (1, 1, 1, 0), ((3, 0),)),)
>>> lets_dealing_paper(FOUR, BEST, ('rightful', ROWS))
'rightful'
>>> lets_dealing_paper(FOUR, SWAP, ('claimed', ROWS, BEST, (1, 0)))
'claimed'
>>> lets_dealing_paper(FOUR, BEST, ('rightful', ()))
raises InvalidPaper(word='plain', at=-1)

>>> from idleclaims.rightfulclasses import Rightful
>>> whole = Rightful(FOUR)
>>> [whole.idle(), whole.holds(SWAP)]
[((0, 2), (2, 0), (3, 0)), False]

>>> from idleclaims.waivers import claims_left
>>> claims_left(FOUR, (), BEST)
((3, 0),)
>>> claims_left(FOUR, ((2, 0), (2, 2)), None)
raises NotIdle(pair=(2, 2))

>>> from idleclaims.bestunder import place_under, kept_by
>>> [place_under(FOUR, ((3, 0),), 0), kept_by(FOUR, (), (0, 3))]
[1, (3,)]

>>> from idleclaims.waivehearing import wins_under
>>> wins_under((((0,), (0,)), ((0, 1),), (1,)), ((1, 0),))
((False, 0), (True, 1), (True, 1))

>>> LINK = (((1, 2, 0), (0, 1), (3, 2), (2, 3), (0, 4)), ((0, 4, 1), (1, 0), (2, 0, 3), (3, 2), (4,)), (1, 1, 1, 1, 1))
>>> from idleclaims.turns import turns_of, dealing_by
>>> turns_of(LINK)
(((0, 1, 0), (1, 0, 1)), ((2, 3, 2), (3, 2, 3)))

>>> dealing_by(LINK, (1,))
((0, 1), (1, 0), (2, 2), (3, 3), (4, 4))

>>> from idleclaims.spans import spans_of, silent_pairs
>>> [spans_of(LINK), silent_pairs(FOUR)]
[(((0, 2), 0, 1), ((4, 0), -1, 0)), ((0, 2), (2, 0))]

>>> from idleclaims.demands import broken_by
>>> broken_by(LINK, ((2, 3),))
(1,)

>>> from idleclaims.prices import cheapest_deal, price_list
>>> cheapest_deal(LINK, (3, 5), ((2, 3),))
((0, 0), (1, 1), (2, 3), (3, 2), (4, 4))
>>> price_list(LINK, (3, 5), 2)
((3, 3), (2, 0))

>>> from idleclaims.blocks import is_block
>>> [is_block(LINK, ((2, 3),), ((0, 2), (4, 0))), is_block(LINK, ((2, 3),), ((4, 0),))]
[True, False]

>>> from idleclaims.pricepapers import lets_price
>>> MID = ((0, 0), (1, 1), (2, 3), (3, 2), (4, 4))
>>> lets_price(LINK, (3, 5), ((2, 3),), (MID, ((3, ((0, 2), (4, 0))),)))
3
>>> lets_price(LINK, (3, 5), ((2, 3),), (MID, ((1, ((0, 2), (4, 0))), (1, ((0, 2),)))))
raises InvalidPaper(word='block', at=1)

>>> from idleclaims.waiverclasses import Waiver
>>> one = Waiver(LINK, ((0, 2),))
>>> two = one.widened(((4, 0),))
>>> [one.does_all(), two.does_all(), two.cost((3, 5))]
[False, True, 8]

>>> from idleclaims.naming import heard_claims, lets_hearing, is_ended
>>> SWAP = ((0, 2), (1, 1), (2, 0), (3, 3))
>>> [heard_claims(FOUR, SWAP, BEST), lets_hearing(FOUR, (SWAP, BEST, ((3, 0),), STILL)), is_ended(FOUR, (SWAP, BEST))]
[((1, 0),), 3, False]
>>> lets_hearing(FOUR, (STILL, BEST))
raises InvalidPaper(word='naming', at=1)

>>> from idleclaims.outcomes import outcome_of, winning_level, bound_of
>>> [outcome_of(FOUR, BEST), bound_of(FOUR, BEST), winning_level(FOUR, SWAP), bound_of(FOUR, SWAP), bound_of(FOUR, ())]
['lost', 2, 1, 3, 1]

>>> from idleclaims.answers import winning_answer
>>> [winning_answer(FOUR, SWAP), winning_answer(FOUR, BEST)]
[((0, 1), (1, 0), (2, 2), (3, 3)), None]

>>> from idleclaims.exact import moves_of, long_answer, best_answer
>>> [moves_of(FOUR, BEST), moves_of(FOUR, long_answer(FOUR, BEST)), best_answer(FOUR, STILL)]
[2, 1, None]

>>> from idleclaims.playing import played_out, answered
>>> [len(played_out(FOUR, SWAP)), answered(FOUR, SWAP, (((3, 0),), 5)) == (SWAP, BEST, ((3, 0),), STILL)]
[4, True]
>>> answered(FOUR, SWAP, (STILL,))
raises NotUsable(word='named', at=-1)

>>> from idleclaims.tables import outcome_table, longest
>>> [outcome_table(ODD), longest(FOUR)]
[((False, 0), (True, 1), (False, 0), (True, 1), (True, 1), (True, 1), (True, 1)), 3]

>>> from idleclaims.courtpapers import lets_court
>>> FIRST = (('up', STILL, (4, 4, 4, 1), ((3, 0),)),)
>>> [lets_court(FOUR, BEST, ('lost', FIRST)), lets_court(FOUR, SWAP, ('won', FIRST, BEST, (1, 0)))]
[(False, 2), (True, 3)]
>>> lets_court(FOUR, SWAP, ('won', FIRST, BEST, (0, 1)))
raises InvalidPaper(word='claim', at=3)

>>> from idleclaims.sides import side_moves
>>> [side_moves(FOUR, FOUR, BEST, SWAP), side_moves(FOUR, ODD, SWAP, ())]
[3, 1]

>>> from idleclaims.letters import letter_of, letter_lines
>>> letter_of(FOUR, 0)
((1, 'rightful', None), (2, 'idle', 1), (0, 'rightful', None))
>>> letter_lines(FOUR, 3)
('pupil 3: listed 2, rightful 1', 'school 0: idle, level 0', 'school 3: rightful')

>>> from idleclaims.courtclasses import Court
>>> court = Court(FOUR, SWAP)
>>> [court.answer() == BEST, court.answer(), court.name(((3, 0),)), court.answer() == STILL, court.has_ended()]
[True, None, None, True, True]
>>> [court.back(2), court.namings() == (BEST,), court.on_table() == BEST]
[None, True, True]
>>> court.back(2)
raises NothingToUndo(steps=1)

>>> from idleclaims.lowering import moved_wish, is_lowered
>>> [is_lowered(FOUR, moved_wish(FOUR, 3, 3, 0)), is_lowered(FOUR, moved_wish(FOUR, 0, 2, 0))]
[True, False]

>>> from idleclaims.adding import with_pair
>>> with_pair(TWO, 1, 1, 0, 2)
(((1, 0), (1, 0), (0, 1)), ((0, 1, 2), (2, 0, 1)), (2, 1))

>>> from idleclaims.office import LiveOffice
>>> live = LiveOffice(FOUR)
>>> [live.go(('waive', 3, 0)), live.tried(('strike', 1, 0))]
[(), ((0, 2), (1, 1), (2, 0), (3, 3))]
>>> [live.go(('strike', 3, 0)), live.quiet_now(), live.undo(1), live.waived_now()]
[((3, 0),), True, (('strike', 3, 0),), ((3, 0),)]

>>> from idleclaims.desk import answered_line
>>> [answered_line(FOUR, 'pair 2 0'), answered_line(FOUR, 'dealing 0-2 1-1 2-0 3-3'), answered_line(FOUR, 'waive 3-0')]
['idle 1', 'claimed 1-0', '0-1 1-0 2-2 3-3']

>>> from idleclaims.officeclasses import Day
>>> day = Day(FOUR, (('waive', 3, 0), ('strike', 1, 0)))
>>> [day.places(0), day.loud()]
[(0, 1, 2), (1,)]
"""
ASSIGNED = re.compile(r"from |\w+(, \w+)* = ")


def rows_of(text):
    """Pairs of an example and what is told of it, or None."""
    found = []
    for line in text.strip().splitlines():
        if line.startswith(">>> "):
            found.append((line[4:], None))
        elif line:
            found[-1] = (found[-1][0], line)
    return found


def told_error(error):
    """The error as the document writes it, its fields with their names."""
    fields = ", ".join(f"{name}={value!r}" for name, value in vars(error).items())
    return f"raises {type(error).__name__}({fields})"


class ExamplesTest(Case):
    def test_all(self):
        names, judged = {}, 0
        for row, expected in rows_of(EXAMPLES):
            with self.subTest(row=row):
                if ASSIGNED.match(row):
                    self.assertIsNone(expected)
                    exec(row, names)
                else:
                    self.judged(row, expected, names)
                    judged += 1
        self.assertEqual(judged, 112)

    def judged(self, row, expected, names):
        try:
            result = eval(row, names)
        except ValueError as error:
            self.assertEqual(told_error(error), expected)
            return
        self.assertTrue(is_exactly(result, eval(expected)), (result, expected))
