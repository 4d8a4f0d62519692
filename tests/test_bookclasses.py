"""Point 22: a book as an object."""

import inspect

from idleclaims.bookclasses import Book
from idleclaims.booklines import book_lines
from idleclaims.errors import InvalidPaper, InvalidText
from tests import samples, truth
from tests.support import Case, no_books, no_dealings, no_sets_of_pairs, unusable
from tests.test_bookchecker import entries

METHODS = (
    "told", "how_many", "all_pairs", "as_lines", "each_dealing", "of_lines", "without", "beside", "claims", "is_same"
)


class BookTest(Case):
    def test_example(self):
        box = Book(((0,),), ((0,),), (1,))
        self.same([box.beside(box).how_many(), box.claims(())], [(2, 2), ((0, 0),)])

    def test_methods_stand_in_the_class(self):
        for name in METHODS:
            self.assertIn(name, vars(Book))
        self.hold_class("bookclasses", Book, dict(zip(("wishes", "rolls", "seats"), samples.FOUR)))

    def test_what_it_tells(self):
        for book in samples.small_books():
            box = Book(*book)
            self.same(box.told(), book)
            self.same(box.how_many(), (len(book[0]), len(book[1])))
            self.same(box.all_pairs(), truth.pairs(book))
            self.same(box.as_lines(), book_lines(book))
            self.same(list(box.each_dealing()), list(truth.dealings(book)))
            for dealing in truth.dealings(book)[::5]:
                self.same(box.claims(dealing), truth.claims(book, dealing))
            for pairs in (truth.pairs(book), truth.pairs(book)[::2], ()):
                shorter = box.without(pairs)
                self.assertIs(type(shorter), Book)
                self.same(shorter.told(), truth.struck(book, pairs))
            self.same(box.told(), book)

    def test_each_dealing_generates(self):
        self.assertTrue(inspect.isgeneratorfunction(Book.each_dealing))
        box = Book(*samples.ODD)
        one, two = box.each_dealing(), box.each_dealing()
        self.same(next(one), ((0, 1), (1, 0)))
        self.same(list(two), list(truth.dealings(samples.ODD)))
        self.same(list(one), list(truth.dealings(samples.ODD)[1:]))

    def test_beside(self):
        books = samples.DOCUMENT + samples.EDGES
        for one in books:
            for two in books:
                box, other = Book(*one), Book(*two)
                both = box.beside(other)
                self.assertIs(type(both), Book)
                self.same(both.told(), samples.beside(one, two))
                self.same([box.told(), other.told()], [one, two])

    def test_of_lines(self):
        for book in samples.small_books()[::2]:
            for box in (Book.of_lines(book_lines(book)), Book(*samples.ODD).of_lines(lines=book_lines(book))):
                self.assertIs(type(box), Book)
                self.same(box.told(), book)
        self.assertEqual(list(inspect.signature(Book.of_lines).parameters), ["lines"])
        self.same(Book.of_lines(()).told(), ((), (), ()))
        for lines in (None, 0, "pupil 0:", ["pupil 0:"], (0,)):
            self.not_usable("lines", Book.of_lines, lines)
        self.refuses(InvalidText, {"line": 1, "field": 0}, Book.of_lines, ("pupil 0:", "x"))
        self.refuses(InvalidPaper, {"word": "sided", "at": (0, 0)}, Book.of_lines, ("pupil 0: 0", "school 0 x1:"))

    def test_is_same(self):
        books = samples.DOCUMENT + samples.EDGES
        for one in books:
            for two in books:
                self.same(Book(*one).is_same(Book(*two)), one == two)
            for other in (None, True, 0, "", (), one, list(one), (one,), book_lines(one), Exception(), Book):
                self.same(Book(*one).is_same(other), False)
        box = Book(*samples.FOUR)
        self.same(box.is_same(box), True)
        self.same(box.is_same(other=Book(*samples.LESS).beside(Book((), (), ()))), False)
        self.same(Book(*samples.LESS).is_same(box.without(((3, 0),))), True)

    def test_parameters(self):
        def make():
            return Book(*samples.FOUR)

        self.hold_method(make, "without", {"pairs": ((3, 0),)}, unusable("pairs", no_sets_of_pairs(samples.FOUR)))
        self.hold_method(make, "claims", {"dealing": samples.BEST}, unusable("dealing", no_dealings(samples.FOUR)))
        others = [samples.FOUR, *no_books()]
        self.hold_method(make, "beside", {"other": Book(*samples.TWO)}, unusable("other", others))
        self.hold_method(make, "is_same", {"other": None})
        for name in ("told", "how_many", "all_pairs", "as_lines"):
            self.hold_method(make, name, {})

    def test_no_books(self):
        for thing in no_books():
            if type(thing) in (tuple, list) and len(thing) == 3:
                word, at = next(entries(tuple(thing)), (None, None))
                if word is not None:
                    self.refuses(InvalidPaper, {"word": word, "at": at}, Book, *thing)
                    named = dict(zip(("wishes", "rolls", "seats"), thing))
                    self.refuses(InvalidPaper, {"word": word, "at": at}, Book, **named)
        self.refuses(InvalidPaper, {"word": "wishes", "at": 0}, Book, None, None, None)

    def test_refused_calls_change_nothing(self):
        box = Book(*samples.FOUR)
        for call in (box.without, box.beside, box.claims):
            self.assertRaises(ValueError, call, None)
        self.same(box.told(), samples.FOUR)
        self.same(box.is_same(Book(*samples.FOUR)), True)
