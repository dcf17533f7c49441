"""The deeds of a set upon a floor, each written in behind its past, with its key and whether it is good."""

from pagefolk.deeds import name_of
from pagefolk.grounds import branch_words, counting_of
from pagefolk.sets import seats_of


class Book:
    """What is in it is never taken out or changed; deeds are only written in."""

    def __init__(self, roll, floor):
        self.hands = list(roll)
        self.seats = seats_of(roll)
        self.floor = floor
        self.told = {}
        self.key_by_name = {}
        self.good_by_name = {}
        self.listed = []
        self.tally = list(floor.poured)
        self.births = list(floor.begun["births"])

    def is_poured(self, name):
        return name[1] <= self.floor.poured[self.seats[name[0]]]

    def last_beyond(self, heard):
        """Of the deeds within the counts heard the last one of each hand that has one beyond the floor."""
        names = [(hand, count) for hand, count in zip(self.hands, heard)]
        return [self.told[name] for name in names if not self.is_poured(name)]

    def next_key(self, deed):
        """The key of a deed whose past is there."""
        heights = [self.key_by_name[name_of(other)][0] for other in self.last_beyond(deed[2])]
        return (1 + max(heights, default=self.floor.tall), self.seats[deed[0]])

    def write_in(self, deed, is_good):
        """Writes in a deed whose past is there."""
        name = name_of(deed)
        key = self.next_key(deed)
        at = len(self.listed)
        while at > 0 and self.key_by_name[name_of(self.listed[at - 1])] > key:
            at -= 1
        self.listed.insert(at, deed)
        self.told[name] = deed
        self.key_by_name[name] = key
        self.good_by_name[name] = is_good
        self.tally[self.seats[deed[0]]] += 1
        if is_good and deed[4][0] == "part":
            self.births.append((name, deed[4][1]))

    def deeds_within(self, counts):
        return [deed for deed in self.listed if deed[1] <= counts[self.seats[deed[0]]]]

    def counting_within(self, counts, branch):
        """The deeds that count in the set of those within the counts, for the branch or the main."""
        return counting_of(self.deeds_within(counts), self.good_by_name, branch)

    def words_within(self, counts):
        """A dict from branches to the good words about them within the counts, the floor's too."""
        words = dict(self.floor.said)
        words.update(branch_words(self.deeds_within(counts), self.good_by_name))
        return words

    def known_within(self, heard):
        """The greatest counts that are known to all in the past that the counts heard tell.

        Of each hand the last deed there is enough, as no later one had heard less.
        What a deed below the floor had heard is told no more: nothing, for what is asked.
        """
        last = dict([(deed[0], deed[2]) for deed in self.last_beyond(heard)])
        nothing = (0,) * len(self.hands)
        known = []
        for seat, hand in enumerate(self.hands):
            known.append(min([last.get(other, nothing)[seat] for other in self.hands if other != hand]))
        return tuple(known)
