"""The looker: whether a paper is right.

It joins no rows and reads no document. It asks of single deeds whether they
count, and goes through all deeds for one that speaks against.
"""

from pagefolk.deeds import MAIN, is_any_name, is_sign_name, is_tuple_of, is_word
from pagefolk.judging import Judge
from pagefolk.rows import is_ahead_by_lines

LENGTHS = {"shown": 3, "unput": 1, "out": 2, "cut": 3, "lost": 2}


class Looker:
    """The deeds of a set, which of them count, and which of these tells the place of each part."""

    def __init__(self, folk):
        self.folk = folk
        self.judge = Judge(folk)
        self.counted = dict([(name, True) for name in self.judge.counting()])
        self.placing = {}
        for name in self.counted:
            what = self.folk.deed(name)[4]
            if what[0] == "part":
                self.placing[name] = name
            if what[0] == "move" and what[1] in self.counted:
                self.placing[what[1]] = name

    def does(self, name, kind):
        """Whether the named deed counts and is one of this kind."""
        return name in self.counted and self.folk.deed(name)[4][0] == kind

    def counting_of_kind(self, kind):
        """What the counting deeds of this kind do, by rising keys, with their names."""
        return [(name, self.folk.deed(name)[4]) for name in self.counted if self.does(name, kind)]

    def is_put(self, name):
        """Whether a good put of the set put a sign of that name, whatever is handed in."""
        if not is_sign_name(self.folk.roll(), name) or not self.folk.has(name[:2]):
            return False
        what = self.folk.deed(name[:2])[4]
        return what[0] == "put" and name[2] < len(what[3]) and self.judge.good(name[:2])

    def part_of(self, sign):
        return self.folk.deed(sign[:2])[4][1]

    def key_of_sign(self, sign):
        return self.folk.key(sign[:2]) + (sign[2],)

    def line_from(self, sign):
        """The signs from this one back to the begin of its row."""
        line = []
        while sign is not None:
            line.append(sign)
            sign = sign[:2] + (sign[2] - 1,) if sign[2] > 0 else self.folk.deed(sign[:2])[4][2]
        return line

    def is_sign_ahead(self, one, other):
        line = self.line_from(one)
        its = self.line_from(other)
        keys = dict([(sign, self.key_of_sign(sign)) for sign in line + its])
        return is_ahead_by_lines(keys, line, its)

    def told_outer(self, part):
        what = self.folk.deed(self.placing[part])[4]
        return what[len(what) - 1]

    def is_turned(self, part):
        """Whether the part is the one of a round that stands in the main part."""
        key = self.folk.key(self.placing[part])
        passed = {}
        outer = self.told_outer(part)
        while outer != part:
            if outer not in self.placing or outer in passed or self.folk.key(self.placing[outer]) > key:
                return False
            passed[outer] = True
            outer = self.told_outer(outer)
        return True


def is_list_of(thing, is_one):
    return isinstance(thing, list) and all([is_one(one) for one in thing])


def is_kind_and_name(thing):
    return is_tuple_of(thing, 2) and is_word(thing[0]) and is_any_name(thing[1])


def passed_parts(looker, part, way):
    """The parts from this one along the way, where each step is the place told of a part, else []."""
    if not is_list_of(way, is_any_name):
        return []
    parts = [part]
    for step in way:
        part = parts[-1]
        if part not in looker.placing or looker.placing[part] != step:
            return []
        parts.append(MAIN if looker.is_turned(part) else looker.told_outer(part))
    return parts


def is_covered(looker, begin, end, sign):
    if begin[0] == sign:
        begins = begin[1] == "ahead"
    else:
        begins = looker.is_sign_ahead(begin[0], sign)
    if end[0] == sign:
        return begins and end[1] == "behind"
    return begins and looker.is_sign_ahead(sign, end[0])


def marks_on(looker, sign):
    """The marks that tell the sign's values, as a paper tells them."""
    part = looker.part_of(sign)
    telling = {}
    for name, what in looker.counting_of_kind("mark"):
        if what[1] == part and is_covered(looker, what[2], what[3], sign):
            telling[what[4]] = (name, what[5])
    return [(kind, telling[kind][0]) for kind in sorted(telling) if telling[kind][1] is not None]


def is_taken_out(looker, sign):
    return any([sign in what[2] for name, what in looker.counting_of_kind("out")])


def is_right_shown(looker, sign, paper):
    parts = passed_parts(looker, looker.part_of(sign), paper[1])
    if len(parts) == 0 or parts[-1] != MAIN:
        return False
    if not looker.does(sign[:2], "put") or is_taken_out(looker, sign):
        return False
    if any([what[1] in parts for name, what in looker.counting_of_kind("cut")]):
        return False
    return is_list_of(paper[2], is_kind_and_name) and paper[2] == marks_on(looker, sign)


def is_right_unput(looker, sign, paper):
    return not looker.does(sign[:2], "put")


def is_right_out(looker, sign, paper):
    if not is_any_name(paper[1]) or not looker.does(paper[1], "out"):
        return False
    return sign in looker.folk.deed(paper[1])[4][2]


def is_right_cut(looker, sign, paper):
    parts = passed_parts(looker, looker.part_of(sign), paper[1])
    if len(parts) == 0 or not is_any_name(paper[2]) or not looker.does(paper[2], "cut"):
        return False
    return looker.folk.deed(paper[2])[4][1] == parts[-1]


def is_right_lost(looker, sign, paper):
    parts = passed_parts(looker, looker.part_of(sign), paper[1])
    return len(parts) > 0 and parts[-1] != MAIN and parts[-1] not in looker.placing


LOOKS = {
    "shown": is_right_shown,
    "unput": is_right_unput,
    "out": is_right_out,
    "cut": is_right_cut,
    "lost": is_right_lost,
}


def is_right(folk, name, paper):
    looker = Looker(folk)
    if not isinstance(paper, tuple) or len(paper) == 0 or not isinstance(paper[0], str) or paper[0] not in LENGTHS:
        return False
    if len(paper) != LENGTHS[paper[0]] or not looker.is_put(name):
        return False
    is_right_so = LOOKS[paper[0]]
    return is_right_so(looker, name, paper)


def is_line(looker, sign, thing):
    """Whether the thing is the line of the sign."""
    roll = looker.folk.roll()
    return is_list_of(thing, lambda one: is_sign_name(roll, one)) and thing == looker.line_from(sign)


def is_ahead_by(folk, one, other, paper):
    looker = Looker(folk)
    if not looker.is_put(one) or not looker.is_put(other) or one == other:
        return None
    if looker.part_of(one) != looker.part_of(other) or not is_tuple_of(paper, 2):
        return None
    if not is_line(looker, one, paper[0]) or not is_line(looker, other, paper[1]):
        return None
    return looker.is_sign_ahead(one, other)
