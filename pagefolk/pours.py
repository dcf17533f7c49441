"""Pours: which counts of a whole set are known to all, and which may be poured."""

from pagefolk.judging import book_of
from pagefolk.pouring import are_within, greatest_beyond


def known_counts(folk, counts):
    book = book_of(folk)
    return are_within(counts, book.known_within(book.tally))


def is_good_pour(folk, name):
    return book_of(folk).good_by_name[name]


def greatest_pour(folk, hand):
    book = book_of(folk)
    return greatest_beyond(book, hand, tuple(book.tally))
