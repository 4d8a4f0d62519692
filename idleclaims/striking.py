"""Told pairs are struck from a book."""

from idleclaims.bookparts import struck_book
from idleclaims.checking import need
from idleclaims.errors import NotTold
from idleclaims.kinds import is_number, is_pair, is_pairs
from idleclaims.loose import told_pairs


def strike(book, pair):
    """The book without this told pair."""
    need(is_pair(book, pair), "pair")
    if pair not in told_pairs(book):
        raise NotTold(pair)
    return struck_book(book, (pair,))


def strike_all(book, pairs):
    """The book without these told pairs, struck at once."""
    need(is_pairs(book, pairs), "pairs")
    told = told_pairs(book)
    for pair in pairs:
        if pair not in told:
            raise NotTold(pair)
    return struck_book(book, pairs)


def struck_by(book, digits):
    """The pairs that are struck one by one, each chosen by the next digit, until none is told."""
    need(isinstance(digits, tuple) and all(is_number(digit) for digit in digits), "digits")
    struck = []
    left = book
    told = told_pairs(left)
    while told:
        digit = digits[len(struck)] if len(struck) < len(digits) else 0
        pair = told[digit % len(told)]
        struck.append(pair)
        left = struck_book(left, (pair,))
        told = told_pairs(left)
    return tuple(struck)


def is_end(book):
    """Has the book no told pairs?"""
    return told_pairs(book) == ()
