"""Rows of signs, and which of them live."""

from pagefolk.rows import ordered


def signs_in(facts, part):
    return [fact for fact in facts["signs"] if fact[0] == part]


def row_of(facts, part):
    return ordered([fact[1:4] for fact in signs_in(facts, part)])


def living(facts, part):
    lives = dict([(fact[1], fact[5]) for fact in signs_in(facts, part)])
    return [name for name in row_of(facts, part) if lives[name]]
