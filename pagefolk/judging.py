"""Which deeds are good, what stands, what counts."""

from pagefolk.books import Book
from pagefolk.deeds import MAIN, name_of
from pagefolk.floors import bare_floor
from pagefolk.grounds import Ground, last_words
from pagefolk.pouring import are_pourable

ON_MAIN_ALONE = ("leave", "bring", "drop", "pour")
NEVER_TAKEN_BACK = ("nothing", "back", "again", "bring", "drop", "pour")
OF_NO_PART = ("nothing", "back", "again", "bring", "drop", "pour")


def named_parts(what):
    """The parts that a deed names, those of its references too."""
    if what[0] in OF_NO_PART:
        return []
    if what[0] == "move":
        return [what[1], what[2]]
    if what[0] == "put":
        return [what[1]] + [sign[1] for sign in what[3] if sign[0] == "refer"]
    return [what[1]]


def named_signs(what):
    if what[0] == "put":
        return [] if what[2] is None else [what[2]]
    if what[0] == "out":
        return list(what[2])
    return [what[2][0], what[3][0]] if what[0] in ("mark", "note") else []


def named_lines(what):
    """Tuples (ways, line), the ways of which the line may be."""
    if what[0] == "line":
        return [] if what[3] is None else [((what[2],), what[3])]
    if what[0] == "strike":
        return [(("row", "column"), what[2])]
    return [(("row",), what[2]), (("column",), what[3])] if what[0] == "cell" else []


def wanted_leaves(what):
    """Tuples (part, to) of the leaves that a deed wants."""
    if what[0] in ("pour", "bring"):
        return [(MAIN, "write")]
    if what[0] in ("note", "leave"):
        return [(what[1], "note" if what[0] == "note" else "give")]
    if what[0] == "move":
        return [(what[1], "write"), (what[2], "write")]
    return [] if what[0] in OF_NO_PART else [(what[1], "write")]


def is_all_there(ground, what):
    """Whether each part, sign and line that a deed names is there in its ground."""
    parts = [ground.has_part(part) for part in named_parts(what)]
    signs = [ground.has_sign(what[1], sign) for sign in named_signs(what)]
    lines = [ground.has_line(what[1], told[0], told[1]) for told in named_lines(what)]
    return all(parts + signs + lines)


def is_let(book, ground, deed):
    wanted = wanted_leaves(deed[4])
    return all([ground.lets(book.hands, book.births, deed[0], want[0], want[1]) for want in wanted])


def may_be_turned(book, deed):
    """Whether the deed that a back or again names is one that its word can turn."""
    name = (deed[0], deed[4][1])
    if book.is_poured(name):
        return False
    named = book.told[name]
    if named[3] != deed[3] or named[4][0] in NEVER_TAKEN_BACK:
        return False
    return name[1] > book.known_within(deed[2])[book.seats[deed[0]]]


def is_good(book, deed):
    """Whether a deed would be good, whose past is in the book."""
    what = deed[4]
    words = book.words_within(deed[2])
    if deed[3] in words or (what[0] in ON_MAIN_ALONE and deed[3] is not None):
        return False
    if what[0] in ("back", "again"):
        return may_be_turned(book, deed)
    if what[0] in ("bring", "drop") and (deed[0], what[1]) in words:
        return False
    ground = Ground(book.floor, book.counting_within(deed[2], deed[3]), book.key_by_name)
    if not is_all_there(ground, what) or not is_let(book, ground, deed):
        return False
    return what[0] != "pour" or are_pourable(book, deed[0], deed[2], what[1])


def judged_book(roll, floor, deeds):
    """A book of deeds, each behind its past."""
    book = Book(roll, floor)
    for deed in deeds:
        book.write_in(deed, is_good(book, deed))
    return book


def book_of(folk):
    """The book of a whole set, made once for each, as nothing of a set changes."""
    if folk.kept_book is None:
        folk.kept_book = judged_book(folk.roll(), bare_floor(folk.roll()), folk.deeds())
    return folk.kept_book


class Judge:
    """What is told of the deeds of a whole set."""

    def __init__(self, folk):
        self.book = book_of(folk)

    def good(self, name):
        return self.book.good_by_name[name]

    def stands(self, name):
        return last_words(self.book.listed, self.book.good_by_name).get(name) != "back"

    def known(self, name, by):
        book = self.book
        return name[1] <= book.known_within(book.told[by][2])[book.seats[name[0]]]

    def word_of(self, branch):
        return self.book.words_within(self.book.tally).get(branch)

    def ground(self, name):
        deed = self.book.told[name]
        return [name_of(other) for other in self.book.counting_within(deed[2], deed[3])]

    def counting(self, branch=None):
        return [name_of(deed) for deed in self.book.counting_within(self.book.tally, branch)]
