"""Keepsakes and what is begun with them: [2], [3] (g), [31], [35], [44]."""

import copy
import random
import unittest

from making import KINDS, some_poured, told
from pagefolk.documents import document
from pagefolk.errors import FolkError, NoThing
from pagefolk.facts import facts_of
from pagefolk.keepsakes import begun_facts, begun_keepsake, keepsake_of
from pagefolk.pours import greatest_pour
from pagefolk.parts import places_told, shown_parts, stands_in
from pagefolk.sets import Folk
from pagefolk.signs import living
from pagefolk.tables import table_of

ROLL = ["ann", "bob"]
THREE = ["ann", "bob", "cyd"]
MAIN = ("", 0)
# So that all ahead is known to all, and each hand knows it.
SETTLED = "\n".join(["", "all hear", "ann nothing", "bob nothing", "all hear", "ann nothing", "bob nothing", "all hear", ""])


def n(number, hand="ann"):
    return (hand, number)


def s(number, i=0, hand="ann"):
    return (hand, number, i)


def poured(text, counts):
    """A set: what is told, all settled, and ann pours the counts; and the name of that pour."""
    deeds = told(ROLL, text + SETTLED + "ann pour " + ",".join(str(count) for count in counts))
    return Folk(ROLL, deeds), deeds[-1][:2]


def keepsake(text, counts):
    folk, name = poured(text, counts)
    return keepsake_of(folk, name)


class Keepsakes(unittest.TestCase):
    def keeps(self, key, text, wanted, many=None):
        """All deeds of the text are ann's, and all are poured."""
        many = len(text.split("\n")) if many is None else many
        self.assertEqual(keepsake(text, (many, 0))[key], wanted)

    def test_of_nothing_much(self):
        self.assertEqual(keepsake("ann nothing", (1, 0)), {
            "roll": ROLL, "counts": (1, 0), "tall": 1, "parts": [], "births": [], "rows": {}, "marks": [], "notes": [],
            "lines": {}, "cells": [], "leaves": [], "words": []})

    def test_roll_counts_and_tall(self):
        text = "ann leave . bob write yes\nbob hears ann\nbob put . - a\nbob put . - b"
        self.assertEqual(keepsake(text, (1, 2))["tall"], 3)
        self.assertEqual(keepsake(text, (1, 2))["counts"], (1, 2))

    def test_parts_and_births(self):
        text = "ann part .\nann part ann.1\nann part .\nann move ann.2 ann.3\nann cut ann.3\nann part ann.1\nann back 6"
        self.keeps("parts", text, [(n(1), MAIN, n(1), (1, 0), MAIN, False), (n(2), n(1), n(4), (4, 0), n(3), False),
                                   (n(3), MAIN, n(3), (3, 0), MAIN, True)])
        self.keeps("births", text, [(n(1), MAIN), (n(2), n(1)), (n(3), MAIN), (n(6), n(1))])

    def test_parts_are_sorted(self):
        text = "ann leave . bob write yes\nbob hears ann\nbob part .\nann nothing\nann nothing\nann nothing\nann part ."
        self.assertEqual([part[0] for part in keepsake(text, (5, 1))["parts"]], [n(5), n(1, "bob")])
        self.assertEqual(keepsake(text, (5, 1))["births"], [(n(5), MAIN), (n(1, "bob"), MAIN)])

    def test_rows(self):
        text = ("ann part .\nann part .\nann put . - a b c\nann put . ann.3.0 *sun #ann.1\nann out . ann.3.1\nann put ann.1 - _\n"
                "ann put ann.2 - x\nann out ann.2 ann.7.0")
        self.keeps("rows", text, {MAIN: [(s(3), "a"), (s(4), ("picture", "sun")), (s(4, 1), ("refer", n(1))), (s(3, 2), "c")],
                                  n(1): [(s(6), " ")]})

    def test_rows_of_parts_that_are_not_shown(self):
        self.keeps("rows", "ann part .\nann put ann.1 - a\nann cut ann.1", {n(1): [(s(2), "a")]})
        self.keeps("rows", "ann part .\nann put ann.1 - a\nann back 1", {n(1): [(s(2), "a")]})
        self.keeps("parts", "ann part .\nann put ann.1 - a\nann back 1", [])

    def test_ends_of_marks(self):
        text = "ann put . - a b c d e\nann mark . ann.1.{} ann.1.{} k on\nann out . ann.1.1 ann.1.2 ann.1.4"
        for begin, end, kept in (("0<", "3>", ((s(1, 0), "ahead"), (s(1, 3), "behind"))),
                                 ("0>", "3<", ((s(1, 0), "behind"), (s(1, 3), "ahead"))),
                                 ("1<", "3>", ((s(1, 3), "ahead"), (s(1, 3), "behind"))),
                                 ("1>", "2>", ((s(1, 3), "ahead"), (s(1, 3), "ahead"))),
                                 ("0<", "2<", ((s(1, 0), "ahead"), (s(1, 3), "ahead"))),
                                 ("0<", "4>", ((s(1, 0), "ahead"), None)), ("4<", "4>", (None, None)),
                                 ("4>", "1<", (None, (s(1, 3), "ahead")))):
            self.keeps("marks", text.format(begin, end), [(MAIN,) + kept + ("k", "on", (2, 0))])

    def test_marks_by_their_keys_and_those_that_do_not_count(self):
        text = ("ann put . - a\nann mark . ann.1.0< ann.1.0> z on\nann mark . ann.1.0< ann.1.0> a -\n"
                "ann mark . ann.1.0< ann.1.0> m up\nann back 4")
        sides = ((s(1), "ahead"), (s(1), "behind"))
        self.keeps("marks", text, [(MAIN,) + sides + ("z", "on", (2, 0)), (MAIN,) + sides + ("a", None, (3, 0))])

    def test_notes(self):
        text = ("ann part .\nann put ann.1 - a b\nann note ann.1 ann.2.1< ann.2.1> z\nann note ann.1 ann.2.0< ann.2.0> a\n"
                "ann out ann.1 ann.2.0\nann note ann.1 ann.2.1> ann.2.1> b\nann back 6")
        self.keeps("notes", text, [(n(1), (s(2, 1), "ahead"), (s(2, 1), "behind"), "z", n(3), (3, 0)),
                                   (n(1), (s(2, 1), "ahead"), (s(2, 1), "ahead"), "a", n(4), (4, 0))])

    def test_lines_and_cells(self):
        text = ("ann line . row -\nann line . row -\nann line . column -\nann line . row ann.2\nann strike . ann.2\n"
                "ann cell . ann.1 ann.3 x\nann cell . ann.1 ann.3 y\nann cell . ann.4 ann.3 z\nann cell . ann.4 ann.3 !\n"
                "ann line . column -\nann cell . ann.4 ann.10 w\nann part .\nann line ann.12 column -\nann strike ann.12 ann.13")
        self.keeps("lines", text, {(MAIN, "row"): [n(4), n(1)], (MAIN, "column"): [n(10), n(3)]})
        self.keeps("cells", text, [(MAIN, n(1), n(3), "y"), (MAIN, n(4), n(10), "w")])

    def test_cells_of_struck_lines(self):
        text = "ann line . row -\nann line . column -\nann cell . ann.1 ann.2 x\nann strike . ann.1"
        self.keeps("cells", text, [])
        self.keeps("lines", text, {(MAIN, "column"): [n(2)]})

    def test_leaves(self):
        text = ("ann part .\nann leave . bob write yes\nann leave . bob read yes\nann leave . bob read no\n"
                "ann leave ann.1 bob read yes\nann leave ann.1 ann give no\nann leave . bob note yes\nann back 7")
        self.keeps("leaves", text, [(MAIN, "bob", "read", False), (MAIN, "bob", "write", True), (n(1), "ann", "give", False),
                                    (n(1), "bob", "read", True)])

    def test_words(self):
        text = "ann/ann.b put . - a\nann/ann.a put . - b\nann bring b\nann drop a\nann drop b"
        self.keeps("words", text, [("ann", "a", "drop"), ("ann", "b", "bring")])
        self.keeps("rows", text, {MAIN: [(s(1), "a")]})
        both = "ann leave . bob write yes\nbob hears ann\nbob drop x\nann bring x"
        self.assertEqual(keepsake(both, (2, 1))["words"], [("ann", "x", "bring"), ("bob", "x", "drop")])

    def test_what_lies_beyond_the_counts_is_not_kept(self):
        text = "ann put . - a\nann put . - b\nann part ."
        self.assertEqual(keepsake(text, (1, 0))["rows"], {MAIN: [(s(1), "a")]})
        self.assertEqual(keepsake(text, (1, 0))["births"], [])

    def test_what_is_no_good_pour(self):
        folk, name = poured("ann nothing", (1, 0))
        for other in (("ann", 1), ("ann", 99), ("bob", 1), ("bob", 7)):
            with self.assertRaises(NoThing):
                keepsake_of(folk, other)
        for counts in ((0, 0), (9, 9), (3, 2), (2, 0)):
            folk, name = poured("ann nothing\nbob nothing", counts)
            with self.assertRaises(NoThing):
                keepsake_of(folk, name)

    def test_what_is_told_is_the_asker_s_own(self):
        folk, name = poured("ann put . - a\nann line . row -\nann part .", (3, 0))
        kept = copy.deepcopy(keepsake_of(folk, name))
        other = keepsake_of(folk, name)
        other["rows"][MAIN].clear()
        other["lines"].clear()
        other["roll"].append("x")
        other["parts"].append("x")
        self.assertEqual(keepsake_of(folk, name), kept)
        self.assertEqual(folk.roll(), ROLL)


def beyond(roll, deeds, counts):
    return [deed for deed in deeds if deed[1] > counts[roll.index(deed[0])]]


class Begun(unittest.TestCase):
    def facts(self, text, counts, branch=None):
        folk, name = poured(text, counts)
        return begun_facts(keepsake_of(folk, name), beyond(ROLL, folk.deeds(), counts), branch)

    def test_what_was_poured(self):
        text = ("ann part .\nann part .\nann move ann.1 ann.2\nann cut ann.1\nann put . - a b c\nann out . ann.5.1\n"
                "ann mark . ann.5.1< ann.5.2> k on\nann mark . ann.5.0< ann.5.1> k -\nann note . ann.5.0< ann.5.0> x\n"
                "ann line . row -\nann line . row -\nann line . column -\nann cell . ann.10 ann.12 up\n"
                "ann leave . bob read yes\nann put ann.2 - z")
        facts = self.facts(text.replace("ann mark . ann.5.1<", "ann mark . ann.5.0>").replace("ann.5.1> k -", "ann.5.2< k -"),
                           (15, 0))
        self.assertEqual(facts, {
            "births": [(n(1), MAIN), (n(2), MAIN)],
            "places": [(n(2), MAIN, n(2), (2, 0)), (n(1), n(2), n(3), (3, 0))],
            "cuts": [(n(1), None)],
            "signs": [(MAIN, s(5), None, (0, 0, 0), "a", True), (n(2), s(15), None, (0, 0, 0), "z", True),
                      (MAIN, s(5, 2), s(5), (0, 0, 1), "c", True)],
            "marks": [(MAIN, (s(5), "behind"), (s(5, 2), "behind"), "k", "on", None, (7, 0)),
                      (MAIN, (s(5), "ahead"), (s(5, 2), "ahead"), "k", None, None, (8, 0))],
            "notes": [(MAIN, (s(5), "ahead"), (s(5), "behind"), "x", n(9), (9, 0))],
            "lines": [(MAIN, "column", n(12), None, (0, 0), True), (MAIN, "row", n(11), None, (0, 0), True),
                      (MAIN, "row", n(10), n(11), (0, 1), True)],
            "cells": [(MAIN, n(10), n(12), "up", (0, 0))],
            "leaves": [(MAIN, "bob", "read", True, (0, 0))]})

    def test_lines_by_rising_keys(self):
        lines = self.facts("ann line . row -\nann line . column -\nann line . row ann.1\nann line . column ann.2", (4, 0))["lines"]
        self.assertEqual([(line[2], line[3], line[4]) for line in lines], [
            (n(2), None, (0, 0)), (n(1), None, (0, 0)), (n(4), n(2), (0, 1)), (n(3), n(1), (0, 1))])

    def test_deeds_beyond(self):
        text = ("ann part .\nann put . - a b\nann line . row -\nann line . column -\nann cell . ann.3 ann.4 x\nann leave . bob write "
                "yes")
        folk, name = poured(text, (6, 0))
        more = told(ROLL, text + SETTLED + "ann pour 6,0\nall hear\nbob put . ann.2.0 c\nbob out . ann.2.1\n"
                    "bob mark . ann.2.0< bob.3.0> k on\nbob cut ann.1\nbob strike . ann.3\nbob cell . ann.3 ann.4 y\n"
                    "bob line . column ann.4\nbob cell . ann.3 bob.9 z\nbob part .\nbob move bob.11 bob.11\n"
                    "bob part ann.1\nbob line . row ann.3\nbob note . ann.2.0< ann.2.0> why\nbob/bob.try put . - z")
        kept = keepsake_of(folk, name)
        whole = Folk(ROLL, more)
        facts = begun_facts(kept, beyond(ROLL, whole.deeds(), (6, 0)))
        tall = whole.key(("bob", 3))[0]
        self.assertEqual(facts["signs"], [
            (MAIN, s(2), None, (0, 0, 0), "a", True), (MAIN, s(2, 1), s(2), (0, 0, 1), "b", False),
            (MAIN, s(3, 0, "bob"), s(2), (tall, 1, 0), "c", True), (MAIN, s(16, 0, "bob"), None, (tall + 13, 1, 0), "z", False)])
        self.assertEqual(facts["cuts"], [(n(1), n(6, "bob"))])
        self.assertEqual([line[5] for line in facts["lines"]], [True, False, True])
        self.assertEqual(facts["marks"][0][5:], (n(5, "bob"), (tall + 2, 1)))
        self.assertEqual(facts["births"], [(n(1), MAIN), (n(11, "bob"), MAIN)])
        self.hold(ROLL, kept, whole.deeds())

    def hold(self, roll, kept, deeds, branches=(None,)):
        """What the stages 6 to 9 tell, by the facts begun and by those of all deeds."""
        folk = Folk(roll, deeds)
        for branch in branches:
            begun = begun_facts(kept, beyond(roll, folk.deeds(), kept["counts"]), branch)
            whole = facts_of(folk, branch)
            self.assertEqual(sorted(begun["births"]), sorted(whole["births"]))
            self.assertEqual(places_told(begun), places_told(whole))
            self.assertEqual(stands_in(begun), stands_in(whole))
            self.assertEqual(shown_parts(begun), shown_parts(whole))
            for part in [MAIN] + [birth[0] for birth in whole["births"]]:
                self.assertEqual(living(begun, part), living(whole, part))
                self.assertEqual(table_of(begun, part), table_of(whole, part))
            for hand in [None] + roll:
                self.assertEqual(document(begun, roll, hand), document(whole, roll, hand))

    def test_a_word_about_a_deed_within_the_counts_is_not_good(self):
        text = "ann put . - a"
        folk, name = poured(text, (1, 0))
        deeds = told(ROLL, text + SETTLED + "ann pour 1,0\nann back 1")
        self.assertTrue(begun_facts(keepsake_of(folk, name), beyond(ROLL, deeds, (1, 0)))["signs"][0][5])

    def test_a_branch_of_which_the_keepsake_has_the_word(self):
        text = "ann/ann.x put . - a\nann bring x"
        folk, name = poured(text, (2, 0))
        deeds = told(ROLL, text + SETTLED + "ann pour 2,0\nann/ann.x put . - b\nann drop x\nann put . ann.1.0 c")
        kept = keepsake_of(folk, name)
        self.assertEqual([sign[4] for sign in begun_facts(kept, beyond(ROLL, deeds, (2, 0)))["signs"]], ["a", "c"])
        self.hold(ROLL, kept, deeds, (None, ("ann", "x")))

    def test_leaves_and_births_that_do_not_count_go_on(self):
        text = "ann part .\nann part ann.1\nann leave ann.1 bob write yes\nann back 1\nann leave . bob read yes"
        folk, name = poured(text, (5, 0))
        deeds = told(ROLL, text + SETTLED + "ann pour 5,0\nall hear\nbob put ann.2 - a\nbob put ann.1 - a\nbob put . - a")
        kept = keepsake_of(folk, name)
        self.assertEqual(len(begun_facts(kept, beyond(ROLL, deeds, (5, 0)))["signs"]), 1)
        self.hold(ROLL, kept, deeds)

    def test_what_is_handed_in_stays(self):
        folk, name = poured("ann put . - a\nann part .\nann line . row -", (3, 0))
        kept = keepsake_of(folk, name)
        deeds = beyond(ROLL, folk.deeds(), (3, 0))
        handed = copy.deepcopy((kept, deeds))
        facts = begun_facts(kept, deeds)
        for key in facts:
            facts[key].append("x")
        self.assertEqual((kept, deeds), handed)
        self.assertEqual(begun_facts(kept, deeds), begun_facts(*handed))


class Whole(unittest.TestCase):
    def sets(self, many, rounds):
        for turn in range(many):
            chance = random.Random(turn)
            roll = chance.choice([ROLL, THREE])
            kinds = chance.choice([KINDS, KINDS + ["mark"] * 8 + ["out"] * 4 + ["note"] * 3])
            maker, pours = some_poured(chance, roll, lambda past, hand: greatest_pour(Folk(roll, past), hand), rounds, kinds)
            folk = Folk(roll, maker.deeds())
            good = []
            for name in pours:
                try:
                    good.append((name, keepsake_of(folk, name)))
                except NoThing:
                    continue
            yield chance, roll, maker.own_branches, folk, good

    def test_held_against_all_deeds(self):
        tried = 0
        for chance, roll, branches, folk, good in self.sets(60, 2):
            for name, kept in good:
                words = [word[:2] for word in kept["words"] if word[2] == "drop"]
                later = beyond(roll, folk.deeds(), kept["counts"])
                within = [deed for deed in folk.deeds() if deed not in later]
                for many in (len(later), chance.randint(0, len(later))):
                    tried += 1
                    Begun.hold(self, roll, kept, within + later[:many],
                               [None] + [branch for branch in branches if branch not in words])
        self.assertGreater(tried, 80)

    def test_a_keepsake_of_a_keepsake(self):
        tried = 0
        for chance, roll, branches, folk, good in self.sets(60, 3):
            for at, (name, kept) in enumerate(good):
                later = beyond(roll, folk.deeds(), kept["counts"])
                for other, wanted in good[at + 1:]:
                    if wanted["counts"] == kept["counts"]:
                        with self.assertRaises(NoThing):
                            begun_keepsake(kept, later, other)
                        continue
                    tried += 1
                    self.assertEqual(begun_keepsake(kept, later, other), wanted)
        self.assertGreater(tried, 20)

    def test_no_good_pour(self):
        folk, name = poured("ann nothing", (1, 0))
        kept = keepsake_of(folk, name)
        later = beyond(ROLL, folk.deeds(), (1, 0))
        for other in (name, ("ann", 1), ("ann", 2), ("bob", 1), ("ann", 99)):
            with self.assertRaises(FolkError) as caught:
                begun_keepsake(kept, later, other)
            self.assertIs(type(caught.exception), NoThing)


if __name__ == "__main__":
    unittest.main()
