"""Keepsakes: what old deeds are poured into, and what is begun with one."""

from pagefolk.books import Book
from pagefolk.deeds import WAYS, name_of
from pagefolk.errors import NoThing
from pagefolk.facts import facts_in
from pagefolk.floors import Floor
from pagefolk.judging import book_of, judged_book
from pagefolk.marks import key_of_mark
from pagefolk.parts import telling_places
from pagefolk.signs import living, row_of
from pagefolk.tables import lines_of, table_of


def parts_named(facts, key):
    """The parts of which facts of this key are told, each once, sorted."""
    return sorted(set([fact[0] for fact in facts[key]]))


def kept_parts(facts):
    births = dict(facts["births"])
    cuts = dict(facts["cuts"])
    told = telling_places(facts)
    return sorted([(part, births[part], place[2], place[3], place[1], part in cuts) for part, place in told.items()])


def kept_rows(facts):
    signs = dict([(fact[1], fact[4]) for fact in facts["signs"]])
    rows = {}
    for part in parts_named(facts, "signs"):
        row = living(facts, part)
        if len(row) > 0:
            rows[part] = [(name, signs[name]) for name in row]
    return rows


def next_living(facts, part):
    """A dict from the signs of the part's row to the first living one from each on, or None."""
    alive = dict([(name, True) for name in living(facts, part)])
    following = {}
    coming = None
    for name in row_of(facts, part)[::-1]:
        coming = name if name in alive else coming
        following[name] = coming
    return following


def kept_side(following, side):
    """The side, hung on a living sign, or None where it lies at the row's end."""
    if side is None or following[side[0]] == side[0]:
        return side
    coming = following[side[0]]
    return None if coming is None else (coming, "ahead")


def with_kept_sides(facts, key):
    """The marks or the notes, both ends of each hung on living signs."""
    following = dict([(part, next_living(facts, part)) for part in parts_named(facts, key)])
    kept = []
    for fact in facts[key]:
        signs = following[fact[0]]
        kept.append((fact[0], kept_side(signs, fact[1]), kept_side(signs, fact[2])) + fact[3:])
    return kept


def kept_lines(facts):
    lines = {}
    for part in parts_named(facts, "lines"):
        for way in WAYS:
            told = lines_of(facts, part, way)
            if len(told) > 0:
                lines[(part, way)] = told
    return lines


def kept_cells(facts):
    cells = []
    for part in parts_named(facts, "cells"):
        table = table_of(facts, part)
        for row, words in zip(table[0], table[2]):
            cells.extend([(part, row, column, word) for column, word in zip(table[1], words) if word != ""])
    return sorted(cells)


def kept_leaves(facts):
    """By rising keys the last one of each part, hand and word is what tells."""
    telling = dict([(fact[:3], fact[3]) for fact in facts["leaves"]])
    return sorted([about + (yes,) for about, yes in telling.items()])


def kept_words(words):
    return sorted([branch + (word,) for branch, word in words.items()])


def book_within(book, counts):
    """The book of the deeds within the counts of a whole set."""
    within = Book(book.hands, book.floor)
    for deed in book.deeds_within(counts):
        within.write_in(deed, book.good_by_name[name_of(deed)])
    return within


def is_pour_beyond(book, name):
    """Whether it is the name of a good pour of the book whose counts go beyond the floor's."""
    if name not in book.told or not book.good_by_name[name]:
        return False
    what = book.told[name][4]
    return what[0] == "pour" and what[1] != book.floor.poured


def keepsake_in(book, name):
    """The keepsake of what a book has, by the good pour of that name, or NoThing."""
    if not is_pour_beyond(book, name):
        raise NoThing(f"{name!r} is no good pour")
    counts = book.told[name][4][1]
    within = book_within(book, counts)
    facts = facts_in(within, None)
    return {
        "roll": list(book.hands),
        "counts": counts,
        "tall": max([key[0] for key in within.key_by_name.values()], default=book.floor.tall),
        "parts": kept_parts(facts),
        "births": sorted(facts["births"]),
        "rows": kept_rows(facts),
        "marks": [fact[:5] + (key_of_mark(fact),) for fact in with_kept_sides(facts, "marks")],
        "notes": with_kept_sides(facts, "notes"),
        "lines": kept_lines(facts),
        "cells": kept_cells(facts),
        "leaves": kept_leaves(facts),
        "words": kept_words(within.words_within(counts)),
    }


def keepsake_of(folk, name):
    return keepsake_in(book_of(folk), name)


def begun_places(keepsake):
    places = [(part[0], part[4], part[2], part[3]) for part in keepsake["parts"]]
    return sorted(places, key=lambda place: place[3])


def begun_signs(keepsake):
    """Each sign behind the one ahead, with the key (0, 0, i)."""
    signs = []
    for part in sorted(keepsake["rows"]):
        behind = None
        for place, told in enumerate(keepsake["rows"][part]):
            signs.append((part, told[0], behind, (0, 0, place), told[1], True))
            behind = told[0]
    return sorted(signs, key=lambda fact: fact[3])


def begun_lines(keepsake):
    """Each line behind the one ahead, with the key (0, i)."""
    lines = []
    for part, way in sorted(keepsake["lines"]):
        behind = None
        for place, line in enumerate(keepsake["lines"][(part, way)]):
            lines.append((part, way, line, behind, (0, place), True))
            behind = line
    return sorted(lines, key=lambda fact: fact[4])


def begun_with(keepsake):
    """The facts of what was poured, as far as the keepsake tells them."""
    return {
        "births": list(keepsake["births"]),
        "places": begun_places(keepsake),
        "cuts": [(part[0], None) for part in keepsake["parts"] if part[5]],
        "signs": begun_signs(keepsake),
        "marks": [mark[:5] + (None, mark[5]) for mark in keepsake["marks"]],
        "notes": list(keepsake["notes"]),
        "lines": begun_lines(keepsake),
        "cells": [cell + ((0, 0),) for cell in keepsake["cells"]],
        "leaves": [leave + ((0, 0),) for leave in keepsake["leaves"]],
    }


def floor_of(keepsake):
    words = dict([((told[0], told[1]), told[2]) for told in keepsake["words"]])
    return Floor(tuple(keepsake["counts"]), keepsake["tall"], begun_with(keepsake), words)


def begun_facts(keepsake, deeds, branch=None):
    return facts_in(judged_book(keepsake["roll"], floor_of(keepsake), deeds), branch)


def begun_keepsake(keepsake, deeds, name):
    return keepsake_in(judged_book(keepsake["roll"], floor_of(keepsake), deeds), name)
