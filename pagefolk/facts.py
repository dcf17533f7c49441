"""The facts of a whole set, or of a book, for a branch or the main."""

from pagefolk.deeds import name_of
from pagefolk.grounds import leaves_told, taken_out_by
from pagefolk.judging import book_of


def deeds_of_kind(deeds, kind):
    return [deed for deed in deeds if deed[4][0] == kind]


def births_of(good):
    return [(name_of(deed), deed[4][1]) for deed in deeds_of_kind(good, "part")]


def places_of(book, counting):
    """Of counting part deeds, and of counting moves of parts whose part deed counts."""
    born = dict(book.floor.counting_parts)
    born.update(dict([(name_of(deed), True) for deed in deeds_of_kind(counting, "part")]))
    places = []
    for deed in counting:
        name = name_of(deed)
        if deed[4][0] == "part":
            places.append((name, deed[4][1], name, book.key_by_name[name]))
        if deed[4][0] == "move" and deed[4][1] in born:
            places.append((deed[4][1], deed[4][2], name, book.key_by_name[name]))
    return places


def signs_of(book, deed, lives):
    """The signs of a put: each but the first stands behind the one ahead."""
    name = name_of(deed)
    signs = []
    behind = deed[4][2]
    for i, sign in enumerate(deed[4][3]):
        sign_name = name + (i,)
        signs.append((deed[4][1], sign_name, behind, book.key_by_name[name] + (i,), sign, lives(name, sign_name)))
        behind = sign_name
    return signs


def all_signs_of(book, good, lives):
    signs = []
    for deed in deeds_of_kind(good, "put"):
        signs.extend(signs_of(book, deed, lives))
    return signs


def lines_of_deeds(book, good, lives):
    lines = []
    for deed in deeds_of_kind(good, "line"):
        name = name_of(deed)
        lines.append(deed[4][1:3] + (name, deed[4][3], book.key_by_name[name], lives(name, name)))
    return lines


def with_name_and_key(book, deed):
    """What a mark or a note tells, then its deed's name and key."""
    name = name_of(deed)
    return deed[4][1:] + (name, book.key_by_name[name])


def with_key(book, deed):
    return deed[4][1:] + (book.key_by_name[name_of(deed)],)


def facts_of_deeds(book, good, counting, lives):
    """The facts of the deeds in the book, of those good and those counting."""
    return {
        "births": births_of(good),
        "places": places_of(book, counting),
        "cuts": [(deed[4][1], name_of(deed)) for deed in deeds_of_kind(counting, "cut")],
        "signs": all_signs_of(book, good, lives),
        "marks": [with_name_and_key(book, deed) for deed in deeds_of_kind(counting, "mark")],
        "notes": [with_name_and_key(book, deed) for deed in deeds_of_kind(counting, "note")],
        "lines": lines_of_deeds(book, good, lives),
        "cells": [with_key(book, deed) for deed in deeds_of_kind(counting, "cell")],
        "leaves": leaves_told(counting, book.key_by_name),
    }


def facts_in(book, branch):
    """The facts of the floor and of all deeds of a book: what is poured lies ahead, as its keys are lesser."""
    counting = book.counting_within(book.tally, branch)
    counted = dict([(name_of(deed), True) for deed in counting])
    gone = {}
    for deed in counting:
        for name in taken_out_by(deed[4]):
            gone[name] = True
    good = [deed for deed in book.listed if book.good_by_name[name_of(deed)]]
    facts = facts_of_deeds(book, good, counting, lambda deed, name: deed in counted and name not in gone)
    begun = dict(book.floor.begun)
    begun["signs"] = [fact[:5] + (fact[1] not in gone,) for fact in begun["signs"]]
    begun["lines"] = [fact[:5] + (fact[2] not in gone,) for fact in begun["lines"]]
    return dict([(key, begun[key] + facts[key]) for key in facts])


def facts_of(folk, branch=None):
    return facts_in(book_of(folk), branch)
