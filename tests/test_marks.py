"""What marks cover and tell, and where notes hang: [2], [20], [21]."""

import copy
import random
import unittest

import plain
from making import some_deeds, told
from pagefolk.facts import facts_of
from pagefolk.marks import covered, marks_of, notes_of, telling_marks
from pagefolk.sets import Folk

ROLL = ["ann", "bob"]
MAIN = ("", 0)
ROW = "ann put . - a b c d\n"


def facts(text, branch=None):
    return facts_of(Folk(ROLL, told(ROLL, text)), branch)


def s(i, number=1):
    return ("ann", number, i)


def ahead(name):
    return (name, "ahead")


def behind(name):
    return (name, "behind")


class Covered(unittest.TestCase):
    def cover(self, begin, end, *places, more=""):
        self.assertEqual(covered(facts(ROW + more), MAIN, begin, end), [s(i) for i in places])

    def test_sides(self):
        self.cover(ahead(s(1)), behind(s(2)), 1, 2)
        self.cover(behind(s(1)), behind(s(2)), 2)
        self.cover(ahead(s(1)), ahead(s(2)), 1)
        self.cover(behind(s(1)), ahead(s(3)), 2)
        self.cover(ahead(s(0)), behind(s(3)), 0, 1, 2, 3)

    def test_one_sign_and_none(self):
        self.cover(ahead(s(1)), behind(s(1)), 1)
        self.cover(behind(s(1)), ahead(s(2)))
        self.cover(ahead(s(1)), ahead(s(1)))
        self.cover(behind(s(1)), behind(s(1)))
        self.cover(behind(s(3)), behind(s(3)))

    def test_the_wrong_way_about(self):
        self.cover(ahead(s(2)), behind(s(1)))
        self.cover(behind(s(1)), ahead(s(1)))
        self.cover(ahead(s(3)), behind(s(0)))
        self.cover(behind(s(2)), ahead(s(1)))

    def test_ends_and_begins_that_are_none(self):
        self.cover(ahead(s(2)), None, 2, 3)
        self.cover(behind(s(2)), None, 3)
        self.cover(behind(s(3)), None)
        self.cover(None, behind(s(2)))
        self.cover(None, None)

    def test_signs_that_do_not_live_are_covered_and_are_ends(self):
        self.cover(ahead(s(1)), behind(s(2)), 1, 2, more="ann out . ann.1.1 ann.1.2")
        self.cover(behind(s(1)), ahead(s(3)), 2, more="ann out . ann.1.1 ann.1.2 ann.1.3")

    def test_what_is_put_in_later(self):
        some = facts(ROW + "ann put . ann.1.1 x\nann put . ann.1.2 y\nann put . - z")
        self.assertEqual(covered(some, MAIN, ahead(s(1)), behind(s(2))), [s(1), s(0, 2), s(2)])
        self.assertEqual(covered(some, MAIN, behind(s(1)), ahead(s(3))), [s(0, 2), s(2), s(0, 3)])
        self.assertEqual(covered(some, MAIN, ahead(s(0)), behind(s(0))), [s(0)])

    def test_signs_of_no_row(self):
        some = facts(ROW)
        self.assertEqual(covered(some, MAIN, ahead(s(0, 9)), behind(s(2))), [])
        self.assertEqual(covered(some, ("ann", 9), ahead(s(0)), behind(s(2))), [])

    def test_another_part(self):
        some = facts("ann part .\nann put ann.1 - a b\nann put . - c")
        self.assertEqual(covered(some, ("ann", 1), ahead(s(0, 2)), None), [s(0, 2), s(1, 2)])
        self.assertEqual(covered(some, ("bob", 5), None, None), [])


class Telling(unittest.TestCase):
    def told(self, text, *wanted, branch=None):
        """By signs in order: lists of (kind, value, number of ann's mark)."""
        some = facts(ROW + text, branch)
        marks, telling = marks_of(some, MAIN), telling_marks(some, MAIN)
        self.assertEqual(list(marks), list(telling))
        names = [fact[1] for fact in some["signs"] if fact[5]]
        self.assertEqual(sorted(marks), sorted(names))
        self.assertEqual([marks[name] for name in names], [[told[:2] for told in of_sign] for of_sign in wanted])
        self.assertEqual([telling[name] for name in names],
                         [[(told[0], ("ann", told[2])) for told in of_sign] for of_sign in wanted])

    def test_no_marks(self):
        self.told("ann nothing", [], [], [], [])
        self.assertEqual(marks_of(facts("ann part ."), MAIN), {})
        self.assertEqual(telling_marks(facts("ann part ."), ("ann", 1)), {})

    def test_one(self):
        self.told("ann mark . ann.1.1< ann.1.2> b on", [], [("b", "on", 2)], [("b", "on", 2)], [])

    def test_two_of_one_kind(self):
        self.told("ann mark . ann.1.0< ann.1.2> b on\nann mark . ann.1.1< ann.1.3> b off", [("b", "on", 2)],
                  [("b", "off", 3)], [("b", "off", 3)], [("b", "off", 3)])

    def test_none_on_top_of_a_value_and_below(self):
        self.told("ann mark . ann.1.0< ann.1.2> b on\nann mark . ann.1.1< ann.1.3> b -", [("b", "on", 2)], [], [], [])
        self.told("ann mark . ann.1.0< ann.1.2> b -\nann mark . ann.1.1< ann.1.1> b on", [], [("b", "on", 3)], [], [])

    def test_several_kinds_sorted(self):
        self.told("ann mark . ann.1.0< ann.1.1> z on\nann mark . ann.1.1< ann.1.2> a off\nann mark . ann.1.1< ann.1.1> m x",
                  [("z", "on", 2)], [("a", "off", 3), ("m", "x", 4), ("z", "on", 2)], [("a", "off", 3)], [])

    def test_taken_back(self):
        marks = "ann mark . ann.1.0< ann.1.0> b on\nann mark . ann.1.0< ann.1.0> b off\n"
        self.told(marks + "ann back 3", [("b", "on", 2)], [], [], [])
        self.told(marks + "ann back 3\nann again 3", [("b", "off", 3)], [], [], [])

    def test_signs_that_do_not_live_have_none(self):
        self.told("ann mark . ann.1.0< ann.1.2> b on\nann out . ann.1.0 ann.1.2", [("b", "on", 2)], [])

    def test_on_a_branch(self):
        text = "ann mark . ann.1.0< ann.1.0> b on\nann/bob.try mark . ann.1.0< ann.1.0> b off"
        self.told(text, [("b", "on", 2)], [], [], [])
        self.told(text, [("b", "off", 3)], [], [], [], branch=("bob", "try"))

    def test_marks_of_another_part_and_the_order_of_facts(self):
        some = facts("ann part .\nann put . - a\nann put ann.1 - b\nann mark . ann.2.0< ann.2.0> b on\n"
                     "ann mark ann.1 ann.3.0< ann.3.0> b off\nann mark . ann.2.0< ann.2.0> b up")
        some["marks"] = some["marks"][::-1]
        self.assertEqual(marks_of(some, MAIN), {s(0, 2): [("b", "up")]})
        self.assertEqual(marks_of(some, ("ann", 1)), {s(0, 3): [("b", "off")]})

    def test_marks_whose_deeds_are_told_as_none(self):
        some = facts(ROW)
        some["marks"] = [(MAIN, ahead(s(0)), None, "b", "on", None, (1, 0)), (MAIN, None, None, "b", "off", None, (2, 0)),
                         (MAIN, ahead(s(2)), None, "a", "x", None, (3, 0))]
        self.assertEqual(telling_marks(some, MAIN), {s(0): [("b", None)], s(1): [("b", None)],
                                                     s(2): [("a", None), ("b", None)], s(3): [("a", None), ("b", None)]})


class Notes(unittest.TestCase):
    def told(self, text, *wanted):
        self.assertEqual(notes_of(facts(ROW + text), MAIN), list(wanted))

    def test_at_the_first_living_sign(self):
        note = "ann note . ann.1.1< ann.1.2> why\n"
        self.told(note, (("ann", 2), "why", s(1)))
        self.told(note + "ann out . ann.1.1", (("ann", 2), "why", s(2)))
        self.told(note + "ann out . ann.1.1 ann.1.2", (("ann", 2), "why", None))
        self.told(note + "ann out . ann.1.1 ann.1.2\nann put . ann.1.0 x", (("ann", 2), "why", None))
        self.told(note + "ann put . ann.1.1 x\nann out . ann.1.1 ann.1.2", (("ann", 2), "why", s(0, 3)))

    def test_over_nothing(self):
        self.told("ann note . ann.1.2< ann.1.1> why\nann note . ann.1.1> ann.1.1> no", (("ann", 2), "why", None),
                  (("ann", 3), "no", None))

    def test_by_keys(self):
        some = facts(ROW + "ann note . ann.1.3< ann.1.3> b\nann note . ann.1.0< ann.1.3> a\nann note . ann.1.1> ann.1.2> a")
        wanted = [(("ann", 2), "b", s(3)), (("ann", 3), "a", s(0)), (("ann", 4), "a", s(2))]
        self.assertEqual(notes_of(some, MAIN), wanted)
        some["notes"] = some["notes"][::-1]
        self.assertEqual(notes_of(some, MAIN), wanted)

    def test_taken_back(self):
        self.told("ann note . ann.1.1< ann.1.2> why\nann back 2")

    def test_other_parts(self):
        some = facts("ann part .\nann put ann.1 - a\nann note ann.1 ann.2.0< ann.2.0> why")
        self.assertEqual(notes_of(some, MAIN), [])
        self.assertEqual(notes_of(some, ("ann", 1)), [(("ann", 3), "why", s(0, 2))])
        self.assertEqual(notes_of(some, ("ann", 3)), [])


class Whole(unittest.TestCase):
    def test_held_against_the_words(self):
        kinds = ["put"] * 6 + ["mark"] * 8 + ["note"] * 3 + ["out"] * 2 + ["back", "again", "part"]
        for turn in range(100):
            deeds = some_deeds(random.Random(turn), ROLL, 40, kinds)
            some = facts_of(Folk(ROLL, deeds), random.Random(turn).choice([None, ("ann", "try")]))
            kept = copy.deepcopy(some)
            for part in [MAIN] + [birth[0] for birth in some["births"]]:
                alive = plain.living(some, part)
                self.assertEqual(marks_of(some, part), dict([(name, plain.marks_of(some, part, name)) for name in alive]))
                self.assertEqual(telling_marks(some, part),
                                 dict([(name, plain.telling_marks(some, part, name)) for name in alive]))
                self.assertEqual(notes_of(some, part), plain.notes_of(some, part))
                row = plain.row_of(some, part)
                for mark in some["marks"]:
                    if mark[0] == part:
                        self.assertEqual(covered(some, part, mark[1], mark[2]),
                                         [name for name in row if plain.covers(row, mark[1], mark[2], name)])
            self.assertEqual(some, kept)


if __name__ == "__main__":
    unittest.main()
