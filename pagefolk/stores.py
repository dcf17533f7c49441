"""Stores: deeds heard one by one, in whatever order, and what is told of them."""

from pagefolk.books import Book
from pagefolk.deeds import is_deed, name_of
from pagefolk.documents import document
from pagefolk.errors import NoDeed, NoPast, Poured, Unlike
from pagefolk.facts import facts_in
from pagefolk.floors import bare_floor
from pagefolk.judging import is_good
from pagefolk.keepsakes import floor_of, keepsake_in
from pagefolk.pouring import are_within, greatest_beyond


def has_past(book, deed):
    """Whether all that the deed had heard is in the book, or poured."""
    return are_within(deed[2], book.tally)


def had_heard_enough(book, deed):
    """Whether a deed whose past is there had heard no less than what is poured and than each deed of that past.

    The last deed of each hand is enough, as those ahead of it had heard no more.
    """
    if not are_within(book.floor.poured, deed[2]):
        return False
    return all([are_within(other[2], deed[2]) for other in book.last_beyond(deed[2])])


class Store:
    """What it has is in its book; what can't be taken up yet waits."""

    def __init__(self, roll, keepsake=None):
        self.book = Book(roll, bare_floor(roll) if keepsake is None else floor_of(keepsake))
        self.held_back = {}

    def hear(self, deed):
        if not is_deed(self.book.hands, deed):
            raise NoDeed("what was heard is no deed of the roll")
        name = name_of(deed)
        if self.book.is_poured(name) or self.has_alike(name, deed):
            return []
        if not has_past(self.book, deed):
            self.held_back[name] = deed
            return []
        if not had_heard_enough(self.book, deed):
            raise NoPast(f"{name!r} had heard less than its past")
        self.take_up(deed)
        return [name] + self.take_up_waiting()

    def has_alike(self, name, deed):
        """Whether the deed is here already or waits, or Unlike where another one of its name does."""
        known = self.book.told.get(name, self.held_back.get(name, deed))
        if known != deed:
            raise Unlike(name)
        return name in self.book.told or name in self.held_back

    def take_up(self, deed):
        self.book.write_in(deed, is_good(self.book, deed))

    def take_up_waiting(self):
        """Takes up those that wait, the least key first, as long as there is one that can be; tells their names."""
        names = []
        ready = self.ready()
        while len(ready) > 0:
            deed = min(ready, key=self.book.next_key)
            name = name_of(deed)
            self.held_back.pop(name)
            self.take_up(deed)
            names.append(name)
            ready = self.ready()
        return names

    def ready(self):
        """Those that wait and can be taken up; who had heard too little is dropped."""
        whole = [deed for deed in self.held_back.values() if has_past(self.book, deed)]
        ready = []
        for deed in whole:
            if had_heard_enough(self.book, deed):
                ready.append(deed)
            else:
                self.held_back.pop(name_of(deed))
        return ready

    def deeds(self):
        return list(self.book.listed)

    def counts(self):
        return tuple(self.book.tally)

    def waiting(self):
        return sorted(self.held_back)

    def facts(self, branch=None):
        return facts_in(self.book, branch)

    def document(self, hand=None):
        return document(self.facts(), self.book.hands, hand)

    def lacking(self, counts):
        if not are_within(self.book.floor.poured, counts):
            raise Poured("deeds beyond these counts are poured")
        return [deed for deed in self.book.listed if deed[1] > counts[self.book.seats[deed[0]]]]

    def greatest(self, hand):
        return greatest_beyond(self.book, hand, self.counts())

    def would(self, deed):
        return is_good(self.book, deed)

    def keepsake_now(self, pour):
        return keepsake_in(self.book, pour)
