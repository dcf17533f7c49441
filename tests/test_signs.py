"""Rows of signs and which of them live: [2], [3] (b), (e), [19]."""

import copy
import random
import unittest

import plain
from making import some_deeds, told
from pagefolk.facts import facts_of
from pagefolk.sets import Folk
from pagefolk.signs import living, row_of

ROLL = ["ann", "bob"]
MAIN = ("", 0)
TRY = ("bob", "try")


def facts(text, branch=None):
    return facts_of(Folk(ROLL, told(ROLL, text)), branch)


def a(number, i=0):
    return ("ann", number, i)


class Rows(unittest.TestCase):
    def test_parts_without_signs(self):
        some = facts("ann part .\nann put . - a")
        for part in (("ann", 1), ("ann", 2), ("bob", 7), ("nobody", 3)):
            self.assertEqual(row_of(some, part), [])
            self.assertEqual(living(some, part), [])

    def test_in_order(self):
        some = facts("ann put . - a b\nann put . - c\nann put . ann.1.0 d e\nann put . ann.1.0 f")
        row = [a(2), a(1), a(4), a(3), a(3, 1), a(1, 1)]
        self.assertEqual(row_of(some, MAIN), row)
        self.assertEqual(living(some, MAIN), row)

    def test_each_part_has_its_own(self):
        some = facts("ann part .\nann put ann.1 - a\nann put . - b\nann put ann.1 - c")
        self.assertEqual(row_of(some, MAIN), [a(3)])
        self.assertEqual(row_of(some, ("ann", 1)), [a(4), a(2)])

    def test_told_apart_at_one_place(self):
        some = facts("ann put . - a z\nann leave . bob write yes\nbob hears ann\nbob put . ann.1.0 c d\nann put . ann.1.0 e f")
        self.assertEqual(row_of(some, MAIN), [a(1), ("bob", 1, 0), ("bob", 1, 1), a(3), a(3, 1), a(1, 1)])

    def test_signs_that_do_not_count_keep_their_places(self):
        begin = "ann put . - a b c\nann put . ann.1.0 d"
        row = [a(1), a(2), a(1, 1), a(1, 2)]
        for more, alive in (("", row), ("\nann back 2", [a(1), a(1, 1), a(1, 2)]), ("\nann back 1", [a(2)]),
                            ("\nann out . ann.1.0 ann.1.2", [a(2), a(1, 1)]),
                            ("\nann out . ann.1.0 ann.1.2\nann back 3", row)):
            self.assertEqual(row_of(facts(begin + more), MAIN), row)
            self.assertEqual(living(facts(begin + more), MAIN), alive)

    def test_signs_of_puts_that_are_not_good_are_none(self):
        self.assertEqual(row_of(facts("bob put . - a\nann put . - b\nann put . bob.1.0 c"), MAIN), [a(2 - 1)])

    def test_signs_of_a_branch(self):
        text = "ann put . - a\nann/bob.try put . ann.1.0 b\nann put . ann.1.0 c\nann/bob.try out . ann.1.0"
        row = [a(1), a(3), a(2)]
        for branch, alive in ((None, [a(1), a(3)]), (TRY, [a(3), a(2)])):
            self.assertEqual(row_of(facts(text, branch), MAIN), row)
            self.assertEqual(living(facts(text, branch), MAIN), alive)
        self.assertEqual(living(facts(text + "\nbob drop try"), MAIN), [a(1), a(3)])

    def test_a_cut_part_keeps_its_row(self):
        some = facts("ann part .\nann put ann.1 - a\nann cut ann.1")
        self.assertEqual(living(some, ("ann", 1)), [a(2)])


class Whole(unittest.TestCase):
    def test_held_against_the_words_and_the_order_never_changes(self):
        for turn in range(60):
            deeds = some_deeds(random.Random(turn), ROLL, 30, ["put"] * 5 + ["out", "back", "again", "part"])
            whole = facts_of(Folk(ROLL, deeds))
            kept = copy.deepcopy(whole)
            for part in [MAIN] + [birth[0] for birth in whole["births"]]:
                row = row_of(whole, part)
                self.assertEqual(row, plain.row_of(whole, part))
                self.assertEqual(living(whole, part), plain.living(whole, part))
                for many in range(0, len(deeds), 5):
                    for branch in (None, ("ann", "try")):
                        ahead = row_of(facts_of(Folk(ROLL, deeds[:many]), branch), part)
                        self.assertEqual(ahead, [name for name in row if name in ahead])
            self.assertEqual(whole, kept)

    def test_what_is_put_between_two_signs_stands_between_them(self):
        for turn in range(60):
            deeds = some_deeds(random.Random(turn), ROLL, 30, ["put"] * 5 + ["out", "back", "again", "part"])
            whole = facts_of(Folk(ROLL, deeds))
            for deed in deeds:
                if deed[4][0] == "put" and deed[:2] + (0,) in row_of(whole, deed[4][1]):
                    its_past = [other for other in deeds if other[1] <= deed[2][ROLL.index(other[0])]]
                    seen = row_of(facts_of(Folk(ROLL, its_past)), deed[4][1])
                    at = 0 if deed[4][2] is None else seen.index(deed[4][2]) + 1
                    row = row_of(whole, deed[4][1])
                    own = [row.index(deed[:2] + (i,)) for i in range(len(deed[4][3]))]
                    self.assertTrue(all(row.index(name) < own[0] for name in seen[:at]))
                    self.assertTrue(all(row.index(name) > own[-1] for name in seen[at:]))


if __name__ == "__main__":
    unittest.main()
