"""Hands: who makes deeds, by what is shown to them."""

from pagefolk.changes import least_change
from pagefolk.deeds import MOST_SIGNS, is_branch, is_sign, is_what, is_word
from pagefolk.documents import document
from pagefolk.errors import NoDeed, NoLeave, NoThing
from pagefolk.judging import named_parts
from pagefolk.stores import Store


def in_dozens(things):
    """The list in lists of twelve each but the last one."""
    return [things[begin:begin + MOST_SIGNS] for begin in range(0, len(things), MOST_SIGNS)]


def check_text(text):
    if not all([is_sign(sign) for sign in text]):
        raise NoDeed(f"{text!r} has a sign that is none")


def check_places(first, last, many):
    """NoThing where one of both isn't a place in a row of so many signs, or they lie the wrong way about."""
    if not 0 <= first <= last <= many:
        raise NoThing("there is no such place")


class Hand:
    """A hand of a roll, with its store and the branch on which it works."""

    def __init__(self, roll, word, keepsake=None):
        self.hands = list(roll)
        self.word = word
        self.branch = None
        self.began_anew = keepsake is not None
        self.store = Store(roll, keepsake)

    def works(self, branch):
        if not is_branch(self.hands, branch):
            raise NoDeed(f"{branch!r} is no branch")
        self.branch = branch

    def next_number(self):
        return self.store.counts()[self.hands.index(self.word)] + 1

    def make(self, what):
        """Makes the next deed and hears it, or NoLeave where it would not be good."""
        deed = (self.word, self.next_number(), self.store.counts(), self.branch, what)
        if not self.store.would(deed):
            raise NoLeave("the deed would not be good")
        self.store.hear(deed)
        return deed

    def does(self, what):
        if not is_what(self.hands, self.next_number(), what):
            raise NoDeed("that is nothing that a deed does")
        there = [entry[1] for entry in self.view()]
        for part in named_parts(what):
            if part not in there:
                raise NoThing(f"{part!r} has no entry in the view")
        return self.make(what)

    def shown_signs(self, part):
        """The shown signs of a part's row, or NoThing where the part isn't there or is closed."""
        for entry in self.view():
            if entry[1] == part and entry[2] is not None:
                return entry[2]
        raise NoThing(f"{part!r} has no row in the view")

    def put(self, part, place, text):
        check_text(text)
        row = self.shown_signs(part)
        check_places(place, place, len(row))
        return self.put_behind(part, row[place - 1][0] if place > 0 else None, list(text))

    def put_behind(self, part, behind, signs):
        deeds = []
        for some in in_dozens(signs):
            deed = self.make(("put", part, behind, tuple(some)))
            deeds.append(deed)
            behind = (deed[0], deed[1], len(some) - 1)
        return deeds

    def out(self, part, place, many):
        row = self.shown_signs(part)
        check_places(place, place + many, len(row))
        return self.take_out(part, row[place:place + many])

    def take_out(self, part, signs):
        return [self.make(("out", part, tuple([sign[0] for sign in some]))) for some in in_dozens(signs)]

    def write(self, part, text):
        check_text(text)
        row = self.shown_signs(part)
        deeds = []
        place = 0
        behind = None
        for kind, told in least_change([sign[1] for sign in row], list(text)):
            if kind == "put":
                deeds.extend(self.put_behind(part, behind, told))
                continue
            if kind == "out":
                deeds.extend(self.take_out(part, row[place:place + told]))
            else:
                behind = row[place + told - 1][0]
            place += told
        return deeds

    def sides(self, part, first, last):
        """The sides ahead of the first place and behind the last one, or NoThing."""
        row = self.shown_signs(part)
        if not 0 <= first <= last < len(row):
            raise NoThing("there is no such stretch")
        return ((row[first][0], "ahead"), (row[last][0], "behind"))

    def mark(self, part, first, last, kind, value):
        if not is_word(kind) or not (value is None or is_word(value)):
            raise NoDeed(f"{kind!r} {value!r} are no words of a mark")
        return self.make(("mark", part) + self.sides(part, first, last) + (kind, value))

    def note(self, part, first, last, word):
        if not is_word(word):
            raise NoDeed(f"{word!r} is no word")
        return self.make(("note", part) + self.sides(part, first, last) + (word,))

    def view(self):
        return document(self.store.facts(self.branch), self.hands, self.word)

    def hear(self, deed):
        return self.store.hear(deed)

    def deeds(self):
        return self.store.deeds()

    def counts(self):
        return self.store.counts()

    def lacking(self, counts):
        return self.store.lacking(counts)

    def keepsake_now(self, pour):
        return self.store.keepsake_now(pour)

    def greatest(self):
        return self.store.greatest(self.word)
