"""What stands and what counts in a set or a past, and what is there in a ground.

Which deeds are good is handed in, as a dict from their names, and deeds stand in
lists by their keys: so of one hand's words the last one in a list is the last by
number.
"""

from pagefolk.deeds import MAIN, name_of
from pagefolk.leaves import has_leave


def good_words(deeds, good, kinds):
    """Of the deeds the good words of these kinds."""
    return [deed for deed in deeds if deed[4][0] in kinds and good[name_of(deed)]]


def last_words(deeds, good):
    """A dict from the names of deeds to the last good word on each, back or again."""
    return dict([((word[0], word[4][1]), word[4][0]) for word in good_words(deeds, good, ("back", "again"))])


def branch_words(deeds, good):
    """A dict from branches to the good word about each, bring or drop."""
    return dict([((word[0], word[4][1]), word[4][0]) for word in good_words(deeds, good, ("bring", "drop"))])


def counting_of(deeds, good, branch):
    """Those of the deeds that count among them for the branch, or for the main."""
    last = last_words(deeds, good)
    said = branch_words(deeds, good)
    counting = []
    for deed in deeds:
        own = deed[3]
        name = name_of(deed)
        if own is not None and own != branch and said.get(own) != "bring":
            continue
        if good[name] and last.get(name) != "back":
            counting.append(deed)
    return counting


def leaves_told(deeds, keys):
    """The leaves of deeds, as facts have them; keys is a dict from their names."""
    return [deed[4][1:] + (keys[name_of(deed)],) for deed in deeds if deed[4][0] == "leave"]


def taken_out_by(what):
    """The parts, signs or lines that a cut, an out or a strike takes out."""
    if what[0] == "cut":
        return [what[1]]
    if what[0] == "out":
        return list(what[2])
    return [what[2]] if what[0] == "strike" else []


class Ground:
    """What the counting deeds of a past make and leave there, upon a floor."""

    def __init__(self, floor, deeds, keys):
        self.floor = floor
        self.made = {}
        self.gone = {}
        for deed in deeds:
            self.made[name_of(deed)] = deed[4]
            for name in taken_out_by(deed[4]):
                self.gone[name] = True
        self.leaves_there = floor.leaves + leaves_told(deeds, keys)

    def has_part(self, part):
        if part == MAIN:
            return True
        if part in self.gone:
            return False
        return part in self.floor.parts or self.what_of(part)[0] == "part"

    def has_sign(self, part, sign):
        if sign in self.gone:
            return False
        if sign in self.floor.signs:
            return self.floor.signs[sign] == part
        what = self.what_of(sign[:2])
        return what[:2] == ("put", part) and sign[2] < len(what[3])

    def has_line(self, part, ways, line):
        if line in self.gone:
            return False
        what = self.floor.lines.get(line, self.what_of(line))
        return what[:2] == ("line", part) and what[2] in ways

    def what_of(self, name):
        return self.made.get(name, ("nothing",))

    def lets(self, roll, births, hand, part, to):
        return has_leave(roll, births, self.leaves_there, hand, part, to)
