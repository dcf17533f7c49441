"""Whole sets of deeds, and the order of their deeds."""

from pagefolk.deeds import name_of
from pagefolk.errors import NoSet


def by_names(deeds):
    """A dict from names to deeds, or NoSet where two unlike ones have one name."""
    told = {}
    for deed in deeds:
        name = name_of(deed)
        if name in told and told[name] != deed:
            raise NoSet(f"two unlike deeds have the name {name!r}")
        told[name] = deed
    return told


def last_heard(roll, deed):
    """The names of the last deed that it had heard of each hand, where it had heard one."""
    return [(hand, count) for hand, count in zip(roll, deed[2]) if count > 0]


def had_heard_as_much(deed, other):
    return all([mine >= its for mine, its in zip(deed[2], other[2])])


def check_past(roll, told, deed):
    """NoSet where the past of the deed isn't there or had heard more than it.

    The last deed of each hand is enough: those ahead of it are its own past,
    and each deed of a set is looked at. That the deed had heard no less than
    a deed of its past itself is so by what a past is.
    """
    name = name_of(deed)
    for other in last_heard(roll, deed):
        if other not in told:
            raise NoSet(f"the past of {name!r} lacks {other!r}")
        if not had_heard_as_much(deed, told[other]):
            raise NoSet(f"{name!r} had heard less than {other!r}")


def how_many_heard(deed):
    return sum(deed[2])


def heights_of(roll, told):
    """A dict from the names of a whole set to heights.

    A deed had heard more deeds than each one of its past had, so by how many
    they had heard the past of each deed comes ahead of it.
    """
    heights = {}
    for deed in sorted(told.values(), key=how_many_heard):
        below = [heights[name] for name in last_heard(roll, deed)]
        heights[name_of(deed)] = 1 + max(below, default=0)
    return heights


def seats_of(roll):
    """A dict from the hands to their places in the roll, from 0."""
    return dict([(hand, seat) for seat, hand in enumerate(roll)])


class Folk:
    """A whole set of deeds; nothing of it changes once it is made."""

    def __init__(self, roll, deeds):
        self.hands = list(roll)
        self.seats = seats_of(roll)
        self.told = by_names(deeds)
        for deed in self.told.values():
            check_past(self.hands, self.told, deed)
        self.heights = heights_of(self.hands, self.told)
        self.sorted_names = sorted(list(self.told), key=self.key)
        # Which of its deeds are good is judged once, when it is first asked for, and kept here.
        self.kept_book = None

    def roll(self):
        return list(self.hands)

    def deeds(self):
        return [self.told[name] for name in self.sorted_names]

    def names(self):
        return list(self.sorted_names)

    def counts(self):
        made_by = [name[0] for name in self.sorted_names]
        return tuple([made_by.count(hand) for hand in self.hands])

    def has(self, name):
        return name in self.told

    def deed(self, name):
        return self.told[name]

    def key(self, name):
        return (self.heights[name], self.seats[name[0]])

    def past(self, name):
        return self.names_within(self.told[name][2])

    def names_within(self, counts):
        return [name for name in self.sorted_names if name[1] <= counts[self.seats[name[0]]]]

    def within(self, counts):
        return Folk(self.hands, [self.told[name] for name in self.names_within(counts)])
