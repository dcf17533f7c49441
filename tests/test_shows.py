"""The document as text: [2], [25]."""

import copy
import random
import unittest

import plain
from making import some_deeds, told
from pagefolk.documents import document
from pagefolk.facts import facts_of
from pagefolk.sets import Folk
from pagefolk.shows import shown

ROLL = ["ann", "bob"]
MAIN = ("", 0)
NO_TABLE = ([], [], [])


def text_of(text, hand=None):
    return shown(document(facts_of(Folk(ROLL, told(ROLL, text))), ROLL, hand))


def of_row(*signs):
    """An entry with a row of (text, marks)."""
    return ("", MAIN, [(("ann", 1, i), text, marks) for i, (text, marks) in enumerate(signs)], [], NO_TABLE)


class Shown(unittest.TestCase):
    def show(self, text, *rows, hand=None):
        self.assertEqual(text_of(text, hand), "\n".join(rows))

    def test_no_entries(self):
        self.assertEqual(shown([]), "")

    def test_parts_without_signs(self):
        self.show("ann nothing", "part .")
        self.show("ann part .\nann part ann.1\nann part .", "part .", "part 1", "part 1.1", "part 2")

    def test_text(self):
        self.show("ann put . - a _ b . , *sun #.", "part .", "text a b.,*sun#")
        self.show("ann put . - _ _ a _", "part .", "text   a ")
        self.show("ann part .\nann put ann.1 - x\nann put . - #ann.1", "part .", "text #1", "part 1", "text x")

    def test_closed(self):
        self.show("ann put . - a", "part .", "closed", hand="bob")
        self.show("ann leave . bob read yes\nann part .\nann part .\nann leave ann.2 bob read no\nann put ann.2 - a\n"
                  "ann put ann.3 - b", "part .", "part 1", "closed", "part 2", "text b", hand="bob")

    def test_notes(self):
        self.show("ann put . - a b\nann note . ann.1.1< ann.1.1> x\nann note . ann.1.0< ann.1.1> y\nann note . ann.1.1> ann.1.1> z",
                  "part .", "text ab", "note x 1", "note y 0", "note z loose")
        self.show("ann put . - a\nann note . ann.1.0< ann.1.0> x\nann out . ann.1.0", "part .", "note x loose")

    def test_tables(self):
        lines = "ann line . row -\nann line . row ann.1\nann line . column -\nann line . column ann.3\n"
        self.show(lines, "part .", "cells - -", "cells - -")
        self.show(lines + "ann cell . ann.1 ann.4 up\nann cell . ann.2 ann.3 down", "part .", "cells - up", "cells down -")
        self.show("ann line . row -\nann line . row -", "part .")
        self.show("ann line . column -", "part .")

    def test_all_in_their_order(self):
        self.show("ann put . - a b\nann line . row -\nann line . column -\nann note . ann.1.0< ann.1.0> x\n"
                  "ann mark . ann.1.0< ann.1.0> k v\nann part .\nann put ann.6 - c",
                  "part .", "text ab", "mark k v 0 0", "note x 0", "cells -", "part 1", "text c")


class Stretches(unittest.TestCase):
    def marks(self, signs, *rows):
        self.assertEqual(shown([of_row(*signs)]).split("\n")[2:], ["mark " + row for row in rows])

    def test_one_stretch(self):
        on = ("a", [("k", "on")])
        self.marks([on, on, on], "k on 0 2")
        self.marks([("a", []), on, on, ("a", [])], "k on 1 2")
        self.marks([("a", []), on], "k on 1 1")

    def test_stretches_that_touch_and_that_do_not(self):
        on, off, none = ("a", [("k", "on")]), ("a", [("k", "off")]), ("a", [])
        self.marks([on, on, off, on], "k on 0 1", "k off 2 2", "k on 3 3")
        self.marks([on, none, on], "k on 0 0", "k on 2 2")

    def test_several_kinds_sorted_by_kind_then_from(self):
        self.marks([("a", [("z", "x")]), ("a", [("b", "y"), ("z", "x")]), ("a", [("b", "y")]), ("a", [("z", "a")])],
                   "b y 1 2", "z x 0 1", "z a 3 3")

    def test_places_of_two_digits(self):
        signs = [("a", [])] * 2 + [("a", [("k", "z")])] + [("a", [])] * 8 + [("a", [("k", "b")])]
        self.marks(signs, "k z 2 2", "k b 11 11")

    def test_marks_over_signs_that_do_not_live_make_one_stretch(self):
        self.assertEqual(text_of("ann put . - a b c\nann mark . ann.1.0< ann.1.2> k on\nann mark . ann.1.1< ann.1.1> k off\n"
                                 "ann out . ann.1.1"), "part .\ntext ac\nmark k on 0 1")


class Whole(unittest.TestCase):
    def test_held_against_the_words(self):
        for turn in range(100):
            chance = random.Random(turn)
            deeds = some_deeds(chance, ROLL, 40)
            for hand in (None, "bob"):
                entries = document(facts_of(Folk(ROLL, deeds)), ROLL, hand)
                kept = copy.deepcopy(entries)
                self.assertEqual(shown(entries), plain.shown(entries))
                self.assertEqual(entries, kept)

    def test_any_marks(self):
        for turn in range(300):
            chance = random.Random(turn)
            signs = []
            for place in range(chance.randint(0, 8)):
                kinds = [kind for kind in ("b", "k", "z") if chance.random() < 0.6]
                signs.append(("a", [(kind, chance.choice(("on", "off"))) for kind in kinds]))
            self.assertEqual(shown([of_row(*signs)]), plain.shown([of_row(*signs)]))


if __name__ == "__main__":
    unittest.main()
