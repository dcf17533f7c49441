"""Words, signs, deeds and their names: [2], [4], [6], [7]."""

import copy
import unittest
from unittest.mock import ANY

from pagefolk.deeds import is_deed, is_sign, is_word, name_of

ROLL = ["ann", "bob", "cyd"]
MAIN = ("", 0)
PART = ("bob", 2)
MOST = 10 ** 6
A = ("ann", 1, 0)
B = ("bob", 2, 11)
ODD = (None, True, False, 0, 1, -1, 1.0, 2.5, "", "A", "ab1", "ninewords", b"a", [], (), {}, [[]], ([],), ((),), {"a"},
       frozenset(), object(), ANY, len, ValueError, float("nan"), ("",), ("", 0, 0), [("", 0)])

# One deed's doing of each kind, and more where the kind has several forms.
GOOD = [
    ("nothing",),
    ("part", MAIN), ("part", PART),
    ("move", PART, MAIN), ("move", PART, ("cyd", 1)), ("move", PART, PART),
    ("cut", PART),
    ("put", MAIN, None, ("a",)), ("put", PART, A, ("z", " ", ".", ",")), ("put", PART, B, ("q",) * 12),
    ("put", MAIN, None, (("picture", "a"), ("picture", "eightlet"), ("refer", MAIN), ("refer", PART))),
    ("out", MAIN, (A,)), ("out", PART, (A, B)), ("out", PART, tuple([("cyd", 1, i) for i in range(12)])),
    ("mark", PART, (A, "ahead"), (B, "behind"), "bold", "yes"), ("mark", MAIN, (B, "behind"), (A, "ahead"), "b", None),
    ("note", MAIN, (A, "ahead"), (A, "behind"), "why"), ("note", PART, (A, "behind"), (B, "behind"), "eightlet"),
    ("line", MAIN, "row", None), ("line", PART, "column", ("ann", 1)), ("line", PART, "row", ("cyd", MOST)),
    ("strike", MAIN, ("ann", 1)), ("strike", PART, ("bob", MOST)),
    ("cell", MAIN, ("ann", 1), ("bob", 1), "word"), ("cell", PART, ("ann", 1), ("ann", 1), ""),
    ("leave", MAIN, "ann", "read", True), ("leave", PART, "bob", "note", False),
    ("leave", PART, "cyd", "write", True), ("leave", MAIN, "bob", "give", False),
    ("back", 1), ("back", 4), ("again", 1), ("again", 4),
    ("bring", "a"), ("bring", "eightlet"), ("drop", "try"),
    ("pour", (0, 0, 0)), ("pour", (7, 0, MOST)),
]


def without(things, left_out):
    """By their reprs, as ANY equals all things, and True equals 1."""
    return tuple([thing for thing in things if repr(thing) != repr(left_out)])


BAD_HANDS = ("", "dan", "Ann", "ninewords", 0, None, True, ("ann",), ["ann"], ANY)
BAD_NUMBERS = (0, -1, MOST + 1, 1.0, True, False, "1", None, (1,), ANY)
BAD_COUNTS_NUMBERS = (-1, MOST + 1, 0.0, True, False, "0", None, (0,), ANY)
BAD_WORDS = ("", "A", "aB", "a b", "a1", ".", "ninewords", 0, None, True, ("a",), ["a"], b"a", ANY)
BAD_NAMES = tuple([(hand, 1) for hand in BAD_HANDS]) + tuple([("ann", number) for number in BAD_NUMBERS]) + (
    MAIN, ("ann",), ("ann", 1, 0), ["ann", 1], "an", None, ANY, 0, ())
BAD_PARTS = without(BAD_NAMES, MAIN) + (("", 1), ("", False), ("", 0.0), ("", 0, 0), ["", 0])
BAD_SIGN_NAMES = tuple([name + (0,) for name in BAD_NAMES if isinstance(name, tuple)]) + tuple(
    [("ann", 1, i) for i in BAD_COUNTS_NUMBERS]) + (("ann", 1), ("ann", 1, 0, 0), ["ann", 1, 0], "ann", None, ANY)
BAD_SIDES = tuple([(name, "ahead") for name in BAD_SIGN_NAMES]) + tuple(
    [(A, where) for where in ("", "Ahead", "before", None, True, 0, ("ahead",), ANY)]) + (
    A, (A,), (A, "ahead", "ahead"), [A, "ahead"], None, ANY, "ahead")
BAD_SIGNS = ("", "ab", "A", "1", "!", "_", "\n", "*", "-", None, 0, True, ["a"], ("a",), ("picture",), ("refer",),
             ("picture", "a", "a"), ("refer", MAIN, MAIN), ["picture", "a"], ["refer", MAIN], ("paint", "a"),
             (ANY, "a"), (ANY, MAIN), (["picture"], "a"), ANY, b"a", (), ("picture", MAIN), ("refer", "a"),
             ) + tuple([("picture", word) for word in BAD_WORDS])
BAD_COUNTS = tuple([(number, 0, 0) for number in BAD_COUNTS_NUMBERS]) + (
    (), (0, 0), (0, 0, 0, 0), [0, 0, 0], 0, None, "000", ANY)


def a_deed(what, hand="ann", number=5, heard=(4, 0, 2), branch=None):
    return (hand, number, heard, branch, what)


class Words(unittest.TestCase):
    def test_words(self):
        for word in ("a", "z", "az", "ann", "eightlet", "abcdefgh", "zzzzzzzz"):
            self.assertIs(is_word(word), True, word)

    def test_no_words(self):
        for thing in BAD_WORDS + ODD + ("a ", " a", "a\n", "\u00e4", "\u00df", "`", "{", "\u0251", "a.b", "a_b",
                                        ("a", "b"), ["a", "b"], "a" * 9, "a" * 9000):
            self.assertIs(is_word(thing), False, thing)


class Signs(unittest.TestCase):
    def test_signs(self):
        letters = tuple("abcdefghijklmnopqrstuvwxyz .,")
        for sign in letters + (("picture", "a"), ("picture", "eightlet"), ("refer", MAIN), ("refer", ("ann", 1)),
                               ("refer", ("nobody", 1)), ("refer", ("z", MOST))):
            self.assertIs(is_sign(sign), True, sign)

    def test_no_signs(self):
        for thing in BAD_SIGNS + ODD + ("\u00e4", "A", ";", "'", "{", "`", "  ", "..", "a.", "\t"):
            self.assertIs(is_sign(thing), False, thing)

    def test_references_to_no_parts(self):
        for part in without(BAD_PARTS, ("dan", 1)):
            self.assertIs(is_sign(("refer", part)), False, part)


class Deeds(unittest.TestCase):
    def are_none(self, whats):
        for what in whats:
            self.assertIs(is_deed(ROLL, a_deed(what)), False, what)
            self.assertIs(is_deed(ROLL, a_deed(what, branch=("bob", "try"))), False, what)

    def swapped(self, what, place, things):
        self.assertIs(is_deed(ROLL, a_deed(what)), True, what)
        self.are_none([what[:place] + (thing,) + what[place + 1:] for thing in things])

    def test_each_kind_on_the_main_and_on_branches(self):
        for what in GOOD:
            for branch in (None, ("ann", "try"), ("cyd", "eightlet")):
                self.assertIs(is_deed(ROLL, a_deed(what, branch=branch)), True, what)

    def test_rolls_of_two_and_six_hands(self):
        two = ["bob", "ann"]
        self.assertIs(is_deed(two, ("ann", 3, (9, 2), None, ("pour", (1, 2)))), True)
        self.assertIs(is_deed(two, ("ann", 3, (2, 9), None, ("nothing",))), False)
        self.assertIs(is_deed(two, ("cyd", 1, (0, 0), None, ("nothing",))), False)
        six = ["a", "b", "c", "d", "e", "f"]
        self.assertIs(is_deed(six, ("f", 1, (1, 2, 3, 4, 5, 0), ("e", "x"), ("pour", (0,) * 6))), True)
        self.assertIs(is_deed(six, ("f", 1, (1, 2, 3, 4, 0), ("e", "x"), ("nothing",))), False)

    def test_the_greatest_numbers(self):
        self.assertIs(is_deed(ROLL, ("bob", MOST, (MOST, MOST - 1, MOST), None, ("back", MOST - 1))), True)
        self.assertIs(is_deed(ROLL, ("bob", MOST + 1, (0, MOST, 0), None, ("nothing",))), False)
        self.assertIs(is_deed(ROLL, ("bob", 1, (MOST + 1, 0, 0), None, ("nothing",))), False)
        great = ("put", ("ann", MOST), ("cyd", MOST, MOST), (("refer", ("bob", MOST)),))
        self.assertIs(is_deed(ROLL, a_deed(great)), True)

    def test_things_that_are_no_tuples_of_five(self):
        for thing in ODD + ("ann", "annbo"):
            self.assertIs(is_deed(ROLL, thing), False, thing)
        good = a_deed(("nothing",))
        self.assertIs(is_deed(ROLL, good), True)
        for thing in (list(good), good[:4], good + (None,), good[1:], (good,), [good], dict(enumerate(good))):
            self.assertIs(is_deed(ROLL, thing), False, thing)

    def test_the_hand(self):
        for hand in BAD_HANDS + ODD:
            self.assertIs(is_deed(ROLL, a_deed(("nothing",), hand=hand)), False, hand)

    def test_the_number(self):
        for number in BAD_NUMBERS + without(ODD, 1):
            self.assertIs(is_deed(ROLL, a_deed(("nothing",), number=number, heard=(0, 0, 0))), False, number)
        self.assertIs(is_deed(ROLL, a_deed(("nothing",), number=0, heard=(-1, 0, 0))), False)
        self.assertIs(is_deed(ROLL, a_deed(("nothing",), number=1, heard=(0, 0, 0))), True)

    def test_heard(self):
        for heard in BAD_COUNTS + ODD:
            self.assertIs(is_deed(ROLL, a_deed(("nothing",), number=1, heard=heard)), False, heard)
        for number in BAD_COUNTS_NUMBERS:
            self.assertIs(is_deed(ROLL, a_deed(("nothing",), heard=(4, number, 0))), False, number)
            self.assertIs(is_deed(ROLL, a_deed(("nothing",), heard=(4, 0, number))), False, number)
        for heard in ((4,), (4, 0), (4, 0, 0, 0), (4, 0, 0, 0, 0, 0), [4, 0, 0]):
            self.assertIs(is_deed(ROLL, a_deed(("nothing",), heard=heard)), False, heard)

    def test_heard_of_its_own_all_ahead(self):
        for place, hand in enumerate(ROLL):
            for own in range(8):
                heard = tuple([own if seat == place else 6 for seat in range(3)])
                answer = is_deed(ROLL, a_deed(("nothing",), hand=hand, heard=heard))
                self.assertIs(answer, own == 4, (hand, own))
        self.assertIs(is_deed(ROLL, a_deed(("nothing",), number=2, heard=(True, 0, 0))), False)
        self.assertIs(is_deed(ROLL, a_deed(("nothing",), number=1, heard=(False, 0, 0))), False)

    def test_the_branch(self):
        for branch in (False, True, 0, "", "try", (), ("ann",), ("ann", "try", "try"), ["ann", "try"], ANY,
                       ("ann", None), MAIN, ("ann", 1)):
            self.assertIs(is_deed(ROLL, a_deed(("nothing",), branch=branch)), False, branch)
        for hand in BAD_HANDS:
            self.assertIs(is_deed(ROLL, a_deed(("nothing",), branch=(hand, "try"))), False, hand)
        for word in BAD_WORDS:
            self.assertIs(is_deed(ROLL, a_deed(("nothing",), branch=("ann", word))), False, word)

    def test_what_is_no_doing(self):
        self.are_none(ODD)
        self.are_none([(), "nothing", ["nothing"], ("Nothing",), ("",), ("nothin",), (None,), (ANY,), (0,), (["part"],),
                       ("picture", "a"), ("refer", MAIN), ("shown",), (("nothing",),)])

    def test_lengths_and_lists(self):
        for what in GOOD:
            self.are_none([list(what), what + (None,), what + ("a",), what + (MAIN,), what[1:], (what,)])
            if len(what) > 1:
                self.are_none([what[:-1]])

    def test_a_list_in_any_tuples_stead(self):
        for what in GOOD:
            for place, thing in enumerate(what):
                if isinstance(thing, tuple):
                    self.swapped(what, place, [list(thing)])

    def test_parts(self):
        self.swapped(("part", PART), 1, BAD_PARTS)
        self.swapped(("move", PART, MAIN), 2, BAD_PARTS)
        for what in GOOD:
            if what[0] in ("put", "out", "mark", "note", "line", "strike", "cell", "leave"):
                self.swapped(what, 1, BAD_PARTS)

    def test_the_main_part_is_not_moved_nor_cut(self):
        self.assertIn(MAIN, BAD_NAMES)
        self.swapped(("move", PART, MAIN), 1, BAD_NAMES)
        self.swapped(("cut", PART), 1, BAD_NAMES)

    def test_put(self):
        self.swapped(("put", MAIN, A, ("a",)), 2, without(BAD_SIGN_NAMES, None) + (False, MAIN, ("", 0, 0)))
        signs = ((), ("a",) * 13, "a", ["a"], "abc", None, ANY, 1, {"a": 1}, (("a",),))
        self.swapped(("put", MAIN, A, ("a",)), 3, signs)
        self.swapped(("put", MAIN, A, ("a",)), 3, [("a", sign) for sign in BAD_SIGNS])
        self.swapped(("put", MAIN, A, ("a",)), 3, [(("refer", part), "a") for part in BAD_PARTS])

    def test_out(self):
        thirteen = tuple([("ann", 1, i) for i in range(13)])
        self.swapped(("out", MAIN, (A,)), 2, ((), thirteen, (A, A), (A, B, A), A, [A], None, ANY, "ann", (None,)))
        self.swapped(("out", MAIN, (A,)), 2, [(B, name) for name in BAD_SIGN_NAMES])

    def test_mark(self):
        mark = ("mark", MAIN, (A, "ahead"), (B, "behind"), "bold", "yes")
        self.swapped(mark, 2, BAD_SIDES)
        self.swapped(mark, 3, BAD_SIDES)
        self.swapped(mark, 4, BAD_WORDS)
        self.swapped(mark, 5, without(BAD_WORDS, None) + (False,))

    def test_note(self):
        note = ("note", MAIN, (A, "ahead"), (B, "behind"), "why")
        self.swapped(note, 2, BAD_SIDES)
        self.swapped(note, 3, BAD_SIDES)
        self.swapped(note, 4, BAD_WORDS)

    def test_line_strike_cell(self):
        ways = ("", "Row", "rows", "col", None, True, 0, ("row",), ANY)
        self.swapped(("line", MAIN, "row", None), 2, ways)
        self.swapped(("line", MAIN, "column", None), 3, without(BAD_NAMES, None) + (False,))
        self.swapped(("strike", MAIN, ("ann", 1)), 2, BAD_NAMES)
        cell = ("cell", MAIN, ("ann", 1), ("ann", 2), "word")
        self.swapped(cell, 2, BAD_NAMES)
        self.swapped(cell, 3, BAD_NAMES)
        self.swapped(cell, 4, without(BAD_WORDS, "") + (False,))

    def test_leave(self):
        leave = ("leave", MAIN, "bob", "read", True)
        self.swapped(leave, 2, BAD_HANDS)
        self.swapped(leave, 3, ("", "Read", "reads", "own", None, True, 0, ("read",), ANY))
        self.swapped(leave, 4, (0, 1, None, "", "yes", "no", (), (True,), ANY))

    def test_back_and_again(self):
        for word in ("back", "again"):
            self.swapped((word, 1), 1, BAD_NUMBERS + (5, 6, 100, MOST))
            first = ("ann", 1, (0, 0, 0), None, (word, 1))
            second = ("ann", 2, (1, 0, 0), None, (word, 1))
            self.assertIs(is_deed(ROLL, first), False)
            self.assertIs(is_deed(ROLL, second), True)

    def test_bring_drop_pour(self):
        self.swapped(("bring", "try"), 1, BAD_WORDS)
        self.swapped(("drop", "try"), 1, BAD_WORDS)
        self.swapped(("pour", (0, 0, 0)), 1, BAD_COUNTS)
        self.swapped(("pour", (0, 0, 0)), 1, [(0, 0, number) for number in BAD_COUNTS_NUMBERS])

    def test_what_is_asked_of_is_not_changed(self):
        roll = list(ROLL)
        for thing in ([["a"]], ("ann", 1, [0, 0, 0], None, ["nothing"]), ("ann", [1], {}, [], {"nothing": []})):
            kept = copy.deepcopy(thing)
            is_deed(roll, thing)
            is_sign(thing)
            is_word(thing)
            self.assertEqual(thing, kept)
        self.assertEqual(roll, ROLL)


class Names(unittest.TestCase):
    def test_the_name_is_hand_and_number(self):
        self.assertEqual(name_of(a_deed(("nothing",))), ("ann", 5))
        self.assertEqual(name_of(("cyd", 1, (3, 4, 0), ("bob", "try"), ("cut", PART))), ("cyd", 1))
        self.assertIsInstance(name_of(a_deed(("nothing",))), tuple)


if __name__ == "__main__":
    unittest.main()
