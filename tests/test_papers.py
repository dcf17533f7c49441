"""Papers and the looker: [2], [3] (c), [26], [27], [28]."""

import itertools
import random
import unittest
from unittest.mock import ANY

import plain
from making import KINDS, some_deeds, told
from pagefolk.facts import facts_of
from pagefolk.judging import Judge
from pagefolk.looker import is_ahead_by, is_right
from pagefolk.papers import order_paper, paper_for
from pagefolk.sets import Folk

ROLL = ["ann", "bob"]
MAIN = ("", 0)
MOVES = ["part"] * 3 + ["move"] * 5 + ["put"] * 5 + ["cut", "mark", "mark", "back", "out"]
LOSSES = ["part"] * 4 + ["put"] * 5 + ["back"] * 4 + ["move", "cut"]


def chance_kinds(turn):
    return (MOVES, LOSSES, ["part"] * 3 + ["move"] * 6 + ["put"] * 4)[turn % 3]


def folk_of(text, roll=ROLL):
    return Folk(roll, told(roll, text))


def n(number):
    return ("ann", number)


def s(number, i=0):
    return ("ann", number, i)


class Papers(unittest.TestCase):
    def paper(self, text, sign, paper):
        folk = folk_of(text)
        self.assertEqual(paper_for(folk, sign), paper)
        self.assertIs(is_right(folk, sign, paper), True)

    def wrong(self, text, sign, *papers):
        folk = folk_of(text)
        for paper in papers:
            self.assertIs(is_right(folk, sign, paper), False, paper)

    def test_shown_in_the_main_part(self):
        self.paper("ann put . - a", s(1), ("shown", [], []))
        self.wrong("ann put . - a", s(1), ("unput",), ("out", n(1)), ("cut", [], n(1)), ("lost", []), ("shown", [n(1)], []),
                   ("shown", [], [("b", n(1))]), ("shown", [MAIN], []))

    def test_shown_in_parts(self):
        text = "ann part .\nann part ann.1\nann part .\nann put ann.2 - a\n"
        self.paper(text, s(4), ("shown", [n(2), n(1)], []))
        self.paper(text + "ann move ann.2 ann.3", s(4), ("shown", [n(5), n(3)], []))
        self.paper(text + "ann move ann.2 ann.3\nann back 5", s(4), ("shown", [n(2), n(1)], []))
        self.wrong(text + "ann move ann.2 ann.3", s(4), ("shown", [n(2), n(1)], []), ("shown", [n(5)], []),
                   ("shown", [n(5), n(1)], []), ("shown", [n(5), n(3), n(3)], []), ("shown", [n(3), n(5)], []),
                   ("shown", [], []), ("shown", [n(5), n(3), MAIN], []), ("shown", [n(2), n(3)], []), ("lost", [n(5), n(3)]),
                   ("lost", []), ("lost", [n(5)]), ("shown", [n(5), n(3), n(9)], []))

    def test_ways_through_rounds(self):
        # Part 1 stands in 2, and 2, whose place has the greatest key, in the main part.
        text = ("ann part .\nann part .\nann move ann.1 ann.2\nann move ann.2 ann.1\nann put ann.1 - a\nann put ann.2 - b\n"
                "ann part ann.1\nann put ann.7 - c")
        self.paper(text, s(5), ("shown", [n(3), n(4)], []))
        self.paper(text, s(6), ("shown", [n(4)], []))
        self.paper(text, s(8), ("shown", [n(7), n(3), n(4)], []))
        self.wrong(text, s(5), ("shown", [n(3)], []), ("shown", [n(3), n(4), n(3)], []), ("shown", [n(3), n(4), n(3), n(4)], []),
                   ("shown", [n(1)], []), ("lost", [n(3), n(4)]))
        self.wrong(text, s(6), ("shown", [n(4), n(3)], []), ("shown", [n(2)], []), ("shown", [], []),
                   ("shown", [n(4), n(3), n(4)], []))

    def test_a_part_in_itself(self):
        text = "ann part .\nann move ann.1 ann.1\nann put ann.1 - a"
        self.paper(text, s(3), ("shown", [n(2)], []))
        self.wrong(text, s(3), ("shown", [n(2), n(2)], []), ("shown", [n(1)], []))
        self.paper(text + "\nann cut ann.1", s(3), ("cut", [], n(4)))
        self.wrong(text + "\nann cut ann.1", s(3), ("cut", [n(2)], n(4)), ("cut", [n(2), n(2)], n(4)))

    def test_unput(self):
        for more in ("ann back 1", "ann out . ann.1.0\nann back 1"):
            self.paper("ann put . - a\n" + more, s(1), ("unput",))
        self.wrong("ann put . - a\nann back 1", s(1), ("shown", [], []), ("out", n(2)), ("lost", []), ("unput", []))
        self.paper("ann/ann.x put . - a", s(1), ("unput",))
        self.paper("ann/ann.x put . - a\nann drop x", s(1), ("unput",))
        self.paper("ann/ann.x put . - a\nann bring x", s(1), ("shown", [], []))

    def test_out(self):
        text = "ann put . - a b\nann out . ann.1.0\nann out . ann.1.1\nann back 3\nann part .\nann put ann.5 - c"
        self.paper(text, s(1), ("out", n(2)))
        self.paper(text, s(1, 1), ("shown", [], []))
        self.wrong(text, s(1), ("out", n(3)), ("out", n(1)), ("out", n(99)), ("out", s(2)), ("out", n(2), []), ("shown", [], []),
                   ("out",), ("out", [n(2)]), ("out", None), ("out", MAIN))
        self.wrong(text, s(1, 1), ("out", n(3)), ("out", n(2)))

    def test_several_that_are_right(self):
        folk = folk_of("ann part .\nann put ann.1 - a\nann out ann.1 ann.2.0\nann cut ann.1\nann back 2")
        self.assertEqual(paper_for(folk, s(2)), ("unput",))
        for paper in (("unput",), ("out", n(3)), ("cut", [], n(4))):
            self.assertIs(is_right(folk, s(2), paper), True)
        both = folk_of("ann put . - a\nann leave . bob write yes\nbob hears ann\nbob out . ann.1.0\nann out . ann.1.0")
        self.assertIs(is_right(both, s(1), ("out", n(3))), True)
        self.assertIs(is_right(both, s(1), ("out", ("bob", 1))), True)

    def test_the_order_of_papers(self):
        text = "ann part .\nann part ann.1\nann put ann.2 - a\nann cut ann.2\nann back 1\n"
        self.paper(text, s(3), ("cut", [], n(4)))
        self.paper(text + "ann back 4", s(3), ("lost", [n(2)]))
        self.paper(text + "ann back 3", s(3), ("unput",))

    def test_cut(self):
        text = "ann part .\nann part ann.1\nann part ann.2\nann put ann.3 - a\nann cut ann.1\nann part .\nann cut ann.6"
        self.paper(text, s(4), ("cut", [n(3), n(2)], n(5)))
        self.wrong(text, s(4), ("cut", [n(3), n(2)], n(7)), ("cut", [n(3)], n(5)), ("cut", [], n(5)), ("cut", [n(2)], n(5)),
                   ("cut", [n(3), n(2), n(1)], n(5)), ("cut", [n(3), n(2)], n(1)), ("shown", [n(3), n(2), n(1)], []),
                   ("cut", [n(3), n(2)]), ("cut", [n(3), n(2)], list(n(5))),
                   ("cut", [n(3), n(2)], ("ann", 5.0)), ("cut", [n(3), n(2)], {}), ("cut", (n(3), n(2)), n(5)), ("cut", [n(3), n(2)], s(5)), ("cut", None, n(5)))
        self.paper(text + "\nann back 5", s(4), ("shown", [n(3), n(2), n(1)], []))
        self.wrong(text + "\nann back 5", s(4), ("cut", [n(3), n(2)], n(5)))
        middle = "ann part .\nann part ann.1\nann put ann.2 - a\nann cut ann.2"
        self.paper(middle, s(3), ("cut", [], n(4)))

    def test_cut_in_a_round(self):
        text = "ann part .\nann part .\nann move ann.1 ann.2\nann move ann.2 ann.1\nann put ann.1 - a\nann put ann.2 - b\n"
        self.paper(text + "ann cut ann.1", s(5), ("cut", [], n(7)))
        self.paper(text + "ann cut ann.1", s(6), ("shown", [n(4)], []))
        self.wrong(text + "ann cut ann.1", s(6), ("cut", [n(4)], n(7)))
        self.paper(text + "ann cut ann.2", s(5), ("cut", [n(3)], n(7)))
        self.wrong(text + "ann cut ann.2", s(5), ("cut", [n(3), n(4), n(3)], n(7)))

    def test_lost(self):
        text = "ann part .\nann part ann.1\nann part ann.2\nann put ann.3 - a\nann back 1"
        self.paper(text, s(4), ("lost", [n(3), n(2)]))
        self.wrong(text, s(4), ("lost", []), ("lost", [n(3)]), ("lost", [n(3), n(2), n(1)]), ("lost",), ("lost", [n(2)]),
                   ("lost", (n(3), n(2))), ("shown", [n(3), n(2)], []), ("shown", [n(3), n(2), n(1)], []), ("lost", None))
        self.paper("ann part .\nann put ann.1 - a\nann back 1", s(2), ("lost", []))
        self.paper(text + "\nann move ann.3 .", s(4), ("shown", [n(6)], []))

    def test_lost_though_it_was_moved(self):
        text = "ann part .\nann part .\nann move ann.1 ann.2\nann put ann.1 - a\nann part ann.1\nann put ann.5 - b\nann back 1"
        self.paper(text, s(4), ("lost", []))
        self.paper(text, s(6), ("lost", [n(5)]))
        self.wrong(text, s(4), ("shown", [n(3), n(2)], []), ("lost", [n(3)]), ("lost", [n(3), n(2)]))

    def test_never_lost_in_the_main_part(self):
        self.wrong("ann put . - a", s(1), ("lost", []))
        self.wrong("ann part .\nann put ann.1 - a", s(2), ("lost", [n(1)]))

    def test_a_sign_of_a_part_made_on_a_branch(self):
        text = "ann/ann.x part .\nann/ann.x put ann.1 - a"
        self.paper(text, s(2), ("unput",))
        self.assertIs(is_right(folk_of(text), s(2), ("lost", [])), True)
        self.paper(text + "\nann bring x", s(2), ("shown", [n(1)], []))


class Marks(unittest.TestCase):
    TEXT = """ann put . - a b c
ann mark . ann.1.0< ann.1.1> k on
ann mark . ann.1.1< ann.1.2> k off
ann mark . ann.1.0< ann.1.2> a up
ann mark . ann.1.2< ann.1.2> a -
ann mark . ann.1.1< ann.1.0> z odd
ann mark . ann.1.0> ann.1.1< z odd
"""

    def right(self, sign, marks, more=""):
        folk = folk_of(self.TEXT + more)
        self.assertEqual(paper_for(folk, sign), ("shown", [], marks))
        self.assertIs(is_right(folk, sign, ("shown", [], marks)), True)
        for place in range(len(marks)):
            self.assertIs(is_right(folk, sign, ("shown", [], marks[:place] + marks[place + 1:])), False)
        bent = [marks + [("z", n(6))], marks + [("k", n(2))], [("a", n(5))] + marks, marks + [("z", n(99))], tuple(marks),
                [list(mark) for mark in marks] + [[]], [mark + (None,) for mark in marks] + [()], None, marks + [None]]
        if len(marks) > 1:
            bent.extend([marks[::-1], marks + marks])
        for some in bent:
            self.assertIs(is_right(folk, sign, ("shown", [], some)), False, some)

    def test_just_those_that_tell(self):
        self.right(s(1, 0), [("a", n(4)), ("k", n(2))])
        self.right(s(1, 1), [("a", n(4)), ("k", n(3))])
        self.right(s(1, 2), [("k", n(3))])

    def test_taken_back(self):
        self.right(s(1, 1), [("a", n(4)), ("k", n(2))], "ann back 3")
        self.right(s(1, 2), [("a", n(4)), ("k", n(3))], "ann back 5")

    def test_sides(self):
        for begin, end, places in (("0<", "2>", (0, 1, 2)), ("0>", "2>", (1, 2)), ("0<", "2<", (0, 1)), ("0>", "2<", (1,)),
                                   ("1<", "1>", (1,)), ("1>", "1<", ()), ("2<", "0>", ()), ("1>", "1>", ()), ("1<", "1<", ())):
            folk = folk_of(f"ann put . - a b c\nann mark . ann.1.{begin} ann.1.{end} k on")
            for i in range(3):
                marks = [("k", n(2))] if i in places else []
                self.assertEqual(paper_for(folk, s(1, i)), ("shown", [], marks))
                self.assertIs(is_right(folk, s(1, i), ("shown", [], marks)), True)
                self.assertIs(is_right(folk, s(1, i), ("shown", [], [("k", n(2))][len(marks):])), False)

    def test_marks_of_another_part(self):
        folk = folk_of("ann part .\nann put ann.1 - y\nann put . - m\nann put ann.1 - x\nann mark ann.1 ann.4.0< ann.2.0> k on")
        self.assertIs(is_right(folk, s(3), ("shown", [], [])), True)
        self.assertIs(is_right(folk, s(3), ("shown", [], [("k", n(5))])), False)
        self.assertIs(is_right(folk, s(4), ("shown", [n(1)], [("k", n(5))])), True)

    def test_marks_whose_ends_do_not_live(self):
        self.right(s(1, 1), [("a", n(4)), ("k", n(3))], "ann out . ann.1.0 ann.1.2")

    def test_truths_in_a_number_s_stead(self):
        folk = folk_of("ann put . - a\nann part .\nann put ann.2 - b\nann mark ann.2 ann.3.0< ann.3.0> k on\n"
                       "ann out . ann.1.0")
        right = ("shown", [n(2)], [("k", n(4))])
        self.assertIs(is_right(folk, s(3), right), True)
        for paper in (("shown", [("ann", 2.0)], [("k", n(4))]), ("shown", [n(2)], [("k", ("ann", 4.0))]),
                      ("shown", [n(2)], [("k", ["ann", 4])]), ("shown", [["ann", 2]], [("k", n(4))]), ("shown", ANY, ANY),
                      ("shown", [ANY], [("k", n(4))]), ("shown", [n(2)], [ANY]), ("shown", [n(2)], [("k", ANY)]),
                      ("shown", [n(2)], [(ANY, n(4))]), (ANY, [n(2)], [("k", n(4))]), ANY, list(right)):
            self.assertIs(is_right(folk, s(3), paper), False, paper)
        one = folk_of("ann part .\nann put ann.1 - b")
        self.assertIs(is_right(one, s(2), ("shown", [("ann", True)], [])), False)
        self.assertIs(is_right(one, s(2), ("shown", [("ann", 1)], [])), True)


class Anything(unittest.TestCase):
    THINGS = (None, True, False, 0, 1, 1.5, "", "shown", "unput", b"unput", [], (), {}, [("unput",)], ["unput"], ("Unput",),
              ("unput", None), ("shown",), ("shown", []), ("shown", [], [], []), (None,), (0,), (["unput"],), (("unput",),),
              ("out", []), ("cut", []), ("lost", [], []), ("nothing",), {"unput": 1}, ("shown", {}, []), ("shown", [], {}),
              ("shown", "", ""), ("shown", (), ()), ("out", "ann.1"), ("out", ("ann", [])), ("cut", [[]], ("ann", 1)),
              ("lost", [{}]), object(), ANY, len)

    def test_papers(self):
        for text, sign in (("ann put . - a", s(1)), ("ann put . - a\nann out . ann.1.0", s(1)),
                           ("ann put . - a\nann back 1", s(1)), ("ann part .\nann put ann.1 - a\nann back 1", s(2))):
            folk = folk_of(text)
            for thing in self.THINGS:
                self.assertIs(is_right(folk, sign, thing), False, thing)

    def test_names_that_no_good_put_put(self):
        folk = folk_of("ann put . - a b\nann nothing\nbob put . - c\nann part .")
        self.assertIs(is_right(folk, ("ann", 1, 0), ("shown", [], [])), True)
        for name in (("ann", 1, 2), ("ann", 2, 0), ("bob", 1, 0), ("bob", 2, 0), ("cyd", 1, 0), ("ann", 0, 0), ("ann", 1, -1),
                     ("ann", True, 0), ("ann", 1, False), ("ann", 1.0, 0), ("ann", 1, 0.0), ("ann", "1", 0), ("ann", 1, None),
                     ("ann", 1), ("ann", 1, 0, 0), (), ("ann",), ("", 0), ("", 0, 0), (None, 1, 0), (["ann"], 1, 0),
                     ("ann", [1], 0), (ANY, 1, 0), ("ann", ANY, 0), ("ann", 1, ANY), ("ann", 10 ** 9, 0), ("ann", 3, 0)):
            for paper in (("shown", [], []), ("unput",), ("lost", []), ("out", n(1)), ("cut", [], n(1)), None):
                self.assertIs(is_right(folk, name, paper), False, name)


class Order(unittest.TestCase):
    TEXT = "ann put . - a b\nann put . ann.1.0 c\nann put . - d\nann part .\nann put ann.4 - e f\nann out . ann.2.0"

    def test_right_ones_both_ways_about(self):
        folk = folk_of(self.TEXT)
        row = [s(3), s(1), s(2), s(1, 1)]
        lines = {s(3): [s(3)], s(1): [s(1)], s(2): [s(2), s(1)], s(1, 1): [s(1, 1), s(1)]}
        for one in row:
            for other in row:
                if one != other:
                    paper = order_paper(folk, one, other)
                    self.assertEqual(paper, (lines[one], lines[other]))
                    self.assertIs(is_ahead_by(folk, one, other, paper), row.index(one) < row.index(other))
        self.assertIs(is_ahead_by(folk, s(5), s(5, 1), ([s(5)], [s(5, 1), s(5)])), True)

    def test_bent_ones(self):
        folk = folk_of(self.TEXT)
        one, other = s(2), s(1, 1)
        right = ([s(2), s(1)], [s(1, 1), s(1)])
        self.assertIs(is_ahead_by(folk, one, other, right), True)
        for paper in ((right[1], right[0]), ([s(2)], right[1]), (right[0], [s(1, 1)]), (right[0], []), ([], right[1]),
                      ([s(2), s(1), s(3)], right[1]), ([s(2), s(1), None], right[1]), ([s(2), s(3)], right[1]),
                      (right[0], [s(1, 1), s(2), s(1)]), (right[0], right[0]), ([s(2), ("ann", True, 0)], right[1]),
                      ([s(2), ("ann", 1, False)], right[1]), ([s(2), ("ann", 1.0, 0)], right[1]), right[0], list(right),
                      right + ([],), (right[0],), (tuple(right[0]), right[1]), (right[0], tuple(right[1])), None, (), [],
                      "", 0, True, (None, None), ("", ""), ({}, {}), ANY, (ANY, ANY), ([ANY, ANY], right[1]),
                      ([list(s(2)), s(1)], right[1]), ([s(2), n(1)], right[1])):
            self.assertIsNone(is_ahead_by(folk, one, other, paper), paper)

    def test_of_other_parts_and_no_signs(self):
        folk = folk_of(self.TEXT)
        self.assertIsNone(is_ahead_by(folk, s(3), s(5), ([s(3)], [s(5)])))
        self.assertIsNone(is_ahead_by(folk, s(3), s(3), ([s(3)], [s(3)])))
        for name in (s(4), s(9), s(1, 2), ("bob", 1, 0), n(1), ("ann", True, 0)):
            self.assertIsNone(is_ahead_by(folk, s(3), name, ([s(3)], [name])))
            self.assertIsNone(is_ahead_by(folk, name, s(3), ([name], [s(3)])))

    def test_what_is_not_good_has_no_place(self):
        folk = folk_of("ann put . - a\nbob put . - b")
        self.assertIsNone(is_ahead_by(folk, s(1), ("bob", 1, 0), ([s(1)], [("bob", 1, 0)])))


class Whole(unittest.TestCase):
    def sets(self, many):
        for turn in range(many):
            chance = random.Random(turn)
            roll = chance.choice([ROLL, ["cyd", "ann", "bob"]])
            yield chance, roll, some_deeds(chance, roll, chance.randint(5, 35), chance.choice([KINDS, MOVES, LOSSES]))

    def test_a_sign_has_a_right_paper_shown_just_where_it_is_shown(self):
        kinds = {}
        for chance, roll, deeds in self.sets(120):
            folk = Folk(roll, deeds)
            facts = facts_of(folk)
            reading = plain.Plain(roll, deeds)
            papers = []
            for sign in facts["signs"]:
                paper = paper_for(folk, sign[1])
                papers.append(paper)
                kinds[paper[0]] = kinds.get(paper[0], 0) + 1
                self.assertEqual(paper[0] == "shown", bool(sign[5] and plain.is_shown(facts, sign[0])))
                self.assertIs(is_right(folk, sign[1], paper), True)
                if paper[0] == "shown":
                    self.assertEqual(paper[2], plain.telling_marks(facts, sign[0], sign[1]))
            for sign in facts["signs"]:
                is_shown = bool(sign[5] and plain.is_shown(facts, sign[0]))
                for paper in papers + self.bent(chance, deeds, papers):
                    answer = is_right(folk, sign[1], paper)
                    self.assertIs(answer, bool(plain.is_so(reading, facts, sign, paper)), (sign, paper))
                    if answer:
                        self.assertEqual(paper[0] == "shown", is_shown, (sign, paper))
        self.assertTrue(all(kinds.get(kind, 0) > 5 for kind in ("shown", "unput", "out", "cut", "lost")), kinds)

    def bent(self, chance, deeds, papers):
        """Papers with ways cut short, drawn out or with other steps, and other deeds named."""
        names = [deed[:2] for deed in deeds]
        some = []
        for paper in chance.sample(papers, min(len(papers), 6)):
            if paper[0] in ("shown", "cut", "lost"):
                for way in (paper[1][:-1], paper[1] + [chance.choice(names)], paper[1][1:], paper[1] + paper[1]):
                    some.append((paper[0], way) + paper[2:])
                some.append(("lost", paper[1]))
                some.append(("cut", paper[1], chance.choice(names)))
            some.append(("out", chance.choice(names)))
        return some + [("unput",)]

    def test_all_short_ways(self):
        for turn in range(12):
            deeds = some_deeds(random.Random(turn), ROLL, 14, chance_kinds(turn), branches=[None])
            folk, reading = Folk(ROLL, deeds), plain.Plain(ROLL, deeds)
            facts = facts_of(folk)
            names = [deed[:2] for deed in deeds if deed[4][0] in ("part", "move", "cut")]
            ways = [list(way) for many in range(4) for way in itertools.product(names, repeat=many)][:1500]
            for sign in facts["signs"][:4]:
                marks = plain.telling_marks(facts, sign[0], sign[1])
                for way in ways:
                    for paper in [("shown", way, marks), ("lost", way)] + [("cut", way, name) for name in names[-2:]]:
                        self.assertIs(is_right(folk, sign[1], paper), bool(plain.is_so(reading, facts, sign, paper)), paper)

    def test_papers_of_order(self):
        for chance, roll, deeds in self.sets(40):
            folk = Folk(roll, deeds)
            facts = facts_of(folk)
            for part in sorted({sign[0] for sign in facts["signs"]}):
                row = plain.row_of(facts, part)
                for one in row[::2]:
                    for other in row:
                        if one != other:
                            paper = order_paper(folk, one, other)
                            self.assertIs(is_ahead_by(folk, one, other, paper), row.index(one) < row.index(other))
                            self.assertIsNone(is_ahead_by(folk, one, other, paper[::-1]))

    def test_what_is_told_is_the_asker_s_own(self):
        folk = folk_of(Marks.TEXT)
        paper_for(folk, s(1))[2].clear()
        self.assertEqual(paper_for(folk, s(1))[2], [("a", n(4)), ("k", n(2))])
        order_paper(folk, s(1), s(1, 1))[0].clear()
        self.assertEqual(order_paper(folk, s(1), s(1, 1))[0], [s(1)])
        paper = ("shown", [], [("a", n(4)), ("k", n(2))])
        is_right(folk, s(1), paper)
        self.assertEqual(paper, ("shown", [], [("a", n(4)), ("k", n(2))]))
        self.assertEqual(Judge(folk).counting(), Judge(folk_of(Marks.TEXT)).counting())


if __name__ == "__main__":
    unittest.main()
