"""The facts of a set: [2], [3] (b), (e), (f), [44]."""

import random
import unittest

from making import some_deeds, told
from pagefolk.facts import facts_of
from pagefolk.sets import Folk
from plain import Plain

ROLL = ["ann", "bob"]
MAIN = ("", 0)
TRY = ("bob", "try")
KEYS = ["births", "cells", "cuts", "leaves", "lines", "marks", "notes", "places", "signs"]


def facts(text, branch=None, roll=ROLL):
    return facts_of(Folk(roll, told(roll, text)), branch)


class Facts(unittest.TestCase):
    def told(self, key, text, wanted, branch=None):
        self.assertEqual(facts(text, branch)[key], wanted)

    def test_no_deeds(self):
        self.assertEqual(facts_of(Folk(ROLL, [])), dict([(key, []) for key in KEYS]))
        self.assertEqual(sorted(facts("ann nothing")), KEYS)

    def test_births_are_of_all_good_part_deeds(self):
        text = "ann part .\nann part ann.1\nbob part .\nann back 1\nann/bob.try part ann.2"
        wanted = [(("ann", 1), MAIN), (("ann", 2), ("ann", 1)), (("ann", 4), ("ann", 2))]
        self.told("births", text, wanted)
        self.told("births", text, wanted, TRY)

    def test_births_by_rising_keys(self):
        text = "ann leave . bob write yes\nbob hears ann\nbob part .\nbob part .\nann part .\nann part ."
        wanted = [(("ann", 2), MAIN), (("bob", 1), MAIN), (("ann", 3), MAIN), (("bob", 2), MAIN)]
        self.told("births", text, wanted)

    def test_places(self):
        text = "ann part .\nann part .\nann move ann.1 ann.2\nann move ann.2 .\nann back 4"
        self.told("places", text, [(("ann", 1), MAIN, ("ann", 1), (1, 0)), (("ann", 2), MAIN, ("ann", 2), (2, 0)),
                                   (("ann", 1), ("ann", 2), ("ann", 3), (3, 0))])

    def test_a_move_counts_only_where_the_part_deed_does(self):
        text = "ann part .\nann part .\nann move ann.1 ann.2\nann back 1"
        self.told("places", text, [(("ann", 2), MAIN, ("ann", 2), (2, 0))])
        self.told("places", text + "\nann again 1", [
            (("ann", 1), MAIN, ("ann", 1), (1, 0)), (("ann", 2), MAIN, ("ann", 2), (2, 0)),
            (("ann", 1), ("ann", 2), ("ann", 3), (3, 0))])

    def test_cuts(self):
        text = "ann part .\nann leave . bob write yes\nbob hears ann\nbob cut ann.1\nann cut ann.1\nann part .\nann cut ann.4\n"
        self.told("cuts", text, [(("ann", 1), ("ann", 3)), (("ann", 1), ("bob", 1)), (("ann", 4), ("ann", 5))])
        self.told("cuts", text + "ann back 3", [(("ann", 1), ("bob", 1)), (("ann", 4), ("ann", 5))])

    def test_signs(self):
        text = "ann put . - a _ *sun\nann part .\nann put ann.2 - b\nann put . ann.1.1 #ann.2 d\nann out . ann.1.2\nbob put . - a"
        self.told("signs", text, [
            (MAIN, ("ann", 1, 0), None, (1, 0, 0), "a", True),
            (MAIN, ("ann", 1, 1), ("ann", 1, 0), (1, 0, 1), " ", True),
            (MAIN, ("ann", 1, 2), ("ann", 1, 1), (1, 0, 2), ("picture", "sun"), False),
            (("ann", 2), ("ann", 3, 0), None, (3, 0, 0), "b", True),
            (MAIN, ("ann", 4, 0), ("ann", 1, 1), (4, 0, 0), ("refer", ("ann", 2)), True),
            (MAIN, ("ann", 4, 1), ("ann", 4, 0), (4, 0, 1), "d", True)])

    def test_twelve_signs_in_their_order(self):
        signs = facts("ann put . - a b c d e f g h i j k l")["signs"]
        self.assertEqual([sign[1] for sign in signs], [("ann", 1, i) for i in range(12)])
        self.assertEqual([sign[2] for sign in signs], [None] + [("ann", 1, i) for i in range(11)])
        self.assertEqual([sign[3] for sign in signs], [(1, 0, i) for i in range(12)])

    def test_signs_taken_back_stay_but_do_not_live(self):
        for more, lives in (("", True), ("\nann back 1", False), ("\nann back 1\nann again 1", True)):
            self.told("signs", "ann put . - a" + more, [(MAIN, ("ann", 1, 0), None, (1, 0, 0), "a", lives)])
        out = "ann put . - a\nann out . ann.1.0\nann back 2"
        self.told("signs", out, [(MAIN, ("ann", 1, 0), None, (1, 0, 0), "a", True)])
        self.told("signs", out + "\nann again 2", [(MAIN, ("ann", 1, 0), None, (1, 0, 0), "a", False)])

    def test_marks_and_notes(self):
        text = ("ann put . - a b\nann mark . ann.1.0< ann.1.1> x on\nann note . ann.1.1> ann.1.0< why\n"
                "ann mark . ann.1.0> ann.1.1< x -\nann note . ann.1.0< ann.1.0> no\nann back 5")
        first, last = ("ann", 1, 0), ("ann", 1, 1)
        self.told("marks", text, [(MAIN, (first, "ahead"), (last, "behind"), "x", "on", ("ann", 2), (2, 0)),
                                  (MAIN, (first, "behind"), (last, "ahead"), "x", None, ("ann", 4), (4, 0))])
        self.told("notes", text, [(MAIN, (last, "behind"), (first, "ahead"), "why", ("ann", 3), (3, 0))])

    def test_lines_and_cells(self):
        text = ("ann line . row -\nann line . column -\nann line . row ann.1\nann cell . ann.3 ann.2 x\nann strike . ann.1\n"
                "ann cell . ann.3 ann.2 !\nann line . column -\nann back 7\nann cell . ann.3 ann.2 y\nann back 9")
        self.told("lines", text, [
            (MAIN, "row", ("ann", 1), None, (1, 0), False), (MAIN, "column", ("ann", 2), None, (2, 0), True),
            (MAIN, "row", ("ann", 3), ("ann", 1), (3, 0), True), (MAIN, "column", ("ann", 7), None, (7, 0), False)])
        self.told("cells", text, [(MAIN, ("ann", 3), ("ann", 2), "x", (4, 0)), (MAIN, ("ann", 3), ("ann", 2), "", (6, 0))])

    def test_leaves(self):
        text = ("ann part .\nann leave . bob write yes\nann leave ann.1 bob read no\nbob hears ann\nbob leave . bob read yes\n"
                "ann leave . ann give no\nann back 2")
        self.told("leaves", text, [(("ann", 1), "bob", "read", False, (3, 0)), (MAIN, "ann", "give", False, (4, 0))])


class Branches(unittest.TestCase):
    BEGIN = """ann leave . bob write yes
ann put . - a b
ann line . row -
ann line . column -
bob hears ann
bob/bob.try part .
bob/bob.try put . ann.2.0 c
bob/bob.try out . ann.2.1
bob/bob.try mark . ann.2.0< bob.2.0> x on
bob/bob.try note . ann.2.0< bob.2.0> why
bob/bob.try strike . ann.3
bob/bob.try line . row ann.3
bob/bob.try move bob.1 bob.1
bob/bob.try cut bob.1
"""

    def test_a_branch_of_which_nothing_is_said(self):
        main, branch = facts(self.BEGIN), facts(self.BEGIN, TRY)
        self.assertEqual(main["births"], [(("bob", 1), MAIN)])
        for key in ("places", "cuts", "marks", "notes"):
            self.assertEqual(main[key], [])
            self.assertNotEqual(branch[key], [])
        self.assertEqual([sign[5] for sign in main["signs"]], [True, True, False])
        self.assertEqual([sign[5] for sign in branch["signs"]], [True, False, True])
        self.assertEqual([line[5] for line in main["lines"]], [True, True])
        self.assertEqual([line[5] for line in branch["lines"]], [False, True])

    def test_brought_in_they_count_like_others(self):
        brought = self.BEGIN + "bob bring try"
        self.assertEqual(facts(brought), facts(brought, TRY))
        self.assertEqual(facts(brought), facts(brought, ("ann", "odd")))
        self.assertEqual(facts(brought), facts(self.BEGIN, TRY))

    def test_dropped(self):
        dropped = self.BEGIN + "bob drop try"
        self.assertEqual(facts(dropped), facts(self.BEGIN))
        self.assertEqual(facts(dropped, TRY), facts(self.BEGIN, TRY))


class Whole(unittest.TestCase):
    def test_held_against_the_words(self):
        for turn in range(150):
            chance = random.Random(turn)
            roll = chance.choice([ROLL, ["cyd", "ann", "bob"]])
            deeds = some_deeds(chance, roll, chance.randint(5, 35))
            plain = Plain(roll, deeds)
            for branch in (None, (roll[0], "try"), (roll[-1], "odd")):
                self.assertEqual(facts_of(Folk(roll, deeds), branch), plain.facts(branch))

    def test_lists_are_the_asker_s_own(self):
        folk = Folk(ROLL, told(ROLL, Branches.BEGIN))
        kept = facts_of(folk)
        one = facts_of(folk)
        for key in one:
            one[key].append("x")
        one.clear()
        self.assertEqual(facts_of(folk), kept)


if __name__ == "__main__":
    unittest.main()
