"""The text of a deed, written and read back: [2], [7], [8]."""

import random
import unittest
from unittest.mock import ANY

from pagefolk import errors
from pagefolk.deeds import is_deed
from pagefolk.errors import FolkError, NoDeed
from pagefolk.letters import read_deed, shown_deed, shown_name

ROLL = ["ann", "bob", "cyd"]
MAIN = ("", 0)
PART = ("bob", 2)
MOST = 10 ** 6
A = ("ann", 1, 0)
B = ("bob", 2, 11)
TWELVE = tuple([("cyd", 7, i) for i in range(12)])

# What a deed does, and the words of it.
TEXTS = [
    (("nothing",), "nothing"),
    (("part", MAIN), "part ."),
    (("part", PART), "part bob.2"),
    (("move", PART, MAIN), "move bob.2 ."),
    (("move", PART, ("cyd", 13)), "move bob.2 cyd.13"),
    (("move", PART, PART), "move bob.2 bob.2"),
    (("cut", PART), "cut bob.2"),
    (("put", MAIN, None, ("h", "i")), "put . - h i"),
    (("put", PART, A, ("z",)), "put bob.2 ann.1.0 z"),
    (("put", MAIN, B, (" ", ".", ",", " ", "a")), "put . bob.2.11 _ . , _ a"),
    (("put", MAIN, None, (("picture", "sun"), "x", ("refer", MAIN), ("refer", PART))), "put . - *sun x #. #bob.2"),
    (("put", MAIN, None, ("q",) * 12), "put . - q q q q q q q q q q q q"),
    (("put", MAIN, None, (("picture", "eightlet"),)), "put . - *eightlet"),
    (("out", MAIN, (A,)), "out . ann.1.0"),
    (("out", PART, (B, A)), "out bob.2 bob.2.11 ann.1.0"),
    (("out", PART, TWELVE), "out bob.2 " + " ".join([f"cyd.7.{i}" for i in range(12)])),
    (("mark", PART, (A, "ahead"), (B, "behind"), "bold", "yes"), "mark bob.2 ann.1.0< bob.2.11> bold yes"),
    (("mark", MAIN, (B, "behind"), (A, "ahead"), "b", None), "mark . bob.2.11> ann.1.0< b -"),
    (("note", MAIN, (A, "ahead"), (A, "behind"), "why"), "note . ann.1.0< ann.1.0> why"),
    (("line", MAIN, "row", None), "line . row -"),
    (("line", PART, "column", ("ann", 1)), "line bob.2 column ann.1"),
    (("strike", MAIN, ("ann", 1)), "strike . ann.1"),
    (("cell", MAIN, ("ann", 1), ("bob", 1), "word"), "cell . ann.1 bob.1 word"),
    (("cell", PART, ("ann", 1), ("cyd", 9), ""), "cell bob.2 ann.1 cyd.9 !"),
    (("leave", MAIN, "ann", "read", True), "leave . ann read yes"),
    (("leave", PART, "bob", "note", False), "leave bob.2 bob note no"),
    (("leave", PART, "cyd", "write", True), "leave bob.2 cyd write yes"),
    (("leave", MAIN, "bob", "give", False), "leave . bob give no"),
    (("back", 1), "back 1"),
    (("back", 4), "back 4"),
    (("again", 4), "again 4"),
    (("bring", "try"), "bring try"),
    (("drop", "eightlet"), "drop eightlet"),
    (("pour", (0, 0, 0)), "pour 0,0,0"),
    (("pour", (7, 0, MOST)), "pour 7,0,1000000"),
]
HEADS = [
    (("ann", 5, (4, 0, 2), None), "ann 5 4,0,2 -"),
    (("bob", 10, (4, 9, 20), ("ann", "try")), "bob 10 4,9,20 ann.try"),
    (("cyd", MOST, (0, MOST, MOST - 1), ("cyd", "eightlet")), "cyd 1000000 0,1000000,999999 cyd.eightlet"),
]
HEAD = "ann 5 4,0,2 - "


class Shown(unittest.TestCase):
    def test_each_kind_on_the_main_and_on_branches(self):
        for what, words in TEXTS:
            for head, begin in HEADS:
                deed = head + (what,)
                self.assertTrue(is_deed(ROLL, deed), deed)
                self.assertEqual(shown_deed(deed), begin + " " + words)
                self.assertEqual(read_deed(ROLL, begin + " " + words), deed)

    def test_truths_and_numbers_are_read_as_such(self):
        self.assertIs(read_deed(ROLL, HEAD + "leave . ann read yes")[4][4], True)
        self.assertIs(read_deed(ROLL, HEAD + "leave . ann read no")[4][4], False)
        self.assertIsInstance(read_deed(ROLL, HEAD + "pour 1,0,1")[4][1], tuple)
        self.assertIsInstance(read_deed(ROLL, HEAD + "out . ann.1.0")[4][2], tuple)

    def test_rolls_of_two_and_six(self):
        two = ("b", 1, (0, 0), ("a", "x"), ("pour", (0, 1)))
        self.assertEqual(shown_deed(two), "b 1 0,0 a.x pour 0,1")
        self.assertEqual(read_deed(["a", "b"], "b 1 0,0 a.x pour 0,1"), two)
        six = ("f", 1, (1, 2, 3, 4, 5, 0), None, ("nothing",))
        self.assertEqual(read_deed(list("abcdef"), shown_deed(six)), six)

    def test_names(self):
        self.assertEqual(shown_name(MAIN), ".")
        self.assertEqual(shown_name(("ann", 1)), "ann.1")
        self.assertEqual(shown_name(("eightlet", MOST)), "eightlet.1000000")
        self.assertEqual(shown_name(A), "ann.1.0")
        self.assertEqual(shown_name(B), "bob.2.11")

    def test_the_roll_stays(self):
        roll = list(ROLL)
        read_deed(roll, HEAD + "nothing")
        self.assertEqual(roll, ROLL)


class Refused(unittest.TestCase):
    def refuse(self, *things):
        for thing in things:
            with self.assertRaises(FolkError, msg=thing) as caught:
                read_deed(ROLL, thing)
            self.assertIs(type(caught.exception), NoDeed, thing)

    def of_whats(self, *whats):
        self.refuse(*[HEAD + what for what in whats])

    def test_the_refusal_is_none_of_the_others(self):
        others = [errors.NoSet, errors.NoPast, errors.Poured, errors.NoThing, errors.NoLeave, errors.NoRow, errors.Unlike]
        for other in others:
            self.assertFalse(issubclass(NoDeed, other))

    def test_things_that_are_no_texts(self):
        good = ("ann", 5, (4, 0, 2), None, ("nothing",))
        self.refuse(None, 0, 5, True, False, 1.5, [], (), {}, good, list(good), [HEAD + "nothing"], (HEAD + "nothing",),
                    b"ann 5 4,0,2 - nothing", object(), ANY, NoDeed, {HEAD + "nothing"})

    def test_a_word_less_or_more(self):
        for what, words in TEXTS:
            text = HEAD + words
            for more in ("a", ".", "-", "1", "ann.1", "ann.1.0", "yes", "!", "nothing"):
                if what[0] not in ("put", "out") or more not in ("a", ".", "ann.1.0"):
                    self.refuse(text + " " + more)
            split = text.split(" ")
            if what[0] not in ("put", "out") or len(what[-1]) == 1:
                self.refuse(" ".join(split[:-1]))
            self.refuse(" ".join(split[1:]))
            for place in range(4):
                self.refuse(" ".join(split[:place] + split[place + 1:]))

    def test_a_word_less_in_the_middle(self):
        for what, words in TEXTS:
            split = words.split(" ")
            for place in range(len(split) - (len(what[-1]) if what[0] in ("put", "out") else 0)):
                self.of_whats(" ".join(split[:place] + split[place + 1:]))

    def test_blanks_tabs_and_line_feeds(self):
        for what, words in TEXTS:
            text = HEAD + words
            self.refuse(" " + text, text + " ", text + "\n", "\n" + text, text + "\t", text + "\r", text.replace(" ", "\t"))
            for place, sign in enumerate(text):
                if sign == " ":
                    for other in ("  ", "\t", "\n", " \n", "\u00a0"):
                        self.refuse(text[:place] + other + text[place + 1:])

    def test_great_letters_and_strange_signs(self):
        for what, words in TEXTS:
            text = HEAD + words
            self.refuse(text.upper())
            for place, sign in enumerate(text):
                if sign.isalpha():
                    self.refuse(text[:place] + sign.upper() + text[place + 1:], text[:place] + "\u00e4" + text[place + 1:])

    def test_numbers(self):
        for number in ("0", "00", "01", "05", "+5", "-5", "1000001", "9" * 30, "9" * 5000, "5.0", "5,", "x", "", "\u0665"):
            self.refuse(f"ann {number} 4,0,2 - nothing", f"ann {number} 0,0,0 - nothing")
            self.of_whats(f"cut ann.{number}", f"out . ann.{number}.0", f"part ann.{number}", f"strike . ann.{number}",
                          f"put . - #ann.{number}", f"back {number}", f"again {number}")
        self.refuse("ann 1000001 1000000,0,2 - nothing", "ann 0 -1,0,0 - nothing")
        for number in ("00", "01", "+1", "-1", "1000001", "9" * 5000, "1.0", "x", ""):
            self.of_whats(f"out . ann.1.{number}", f"pour 0,0,{number}", f"put . ann.1.{number} a",
                          f"mark . ann.1.{number}< ann.1.0> a b")
            self.refuse(f"ann 5 4,0,{number} - nothing")
        self.assertEqual(read_deed(ROLL, HEAD + "out . ann.1.0")[4][2], (A,))

    def test_heard(self):
        for heard in ("4", "4,0", "4,0,2,0", "4,0,2,", ",4,0,2", "4,,2", "4.0.2", "4;0;2", "-", "5,0,2", "3,0,2", "0,0,0",
                      "(4,0,2)", "4,0,-2", "4,0,02"):
            self.refuse(f"ann 5 {heard} - nothing")

    def test_hands_that_are_none_of_the_roll(self):
        self.refuse("dan 5 4,0,2 - nothing", "ann.1 5 4,0,2 - nothing", ". 5 4,0,2 - nothing", "- 5 4,0,2 - nothing")
        self.of_whats("cut dan.1", "part dan.1", "move ann.1 dan.1", "put . - #dan.1", "put . dan.1.0 a", "out . dan.1.0",
                      "leave . dan read yes", "strike . dan.1", "line . row dan.1", "cell . dan.1 ann.1 a",
                      "mark . dan.1.0< ann.1.0> a b", "note . ann.1.0< dan.1.0> a")

    def test_branches(self):
        for branch in ("dan.try", "ann", "ann.", ".try", ".", "ann.try.try", "ann.Try", "ann.1", "ann.ninewords", "--", "!",
                       "None", "ann,try"):
            self.refuse(f"ann 5 4,0,2 {branch} nothing")

    def test_signs_and_names_too_few_too_many_or_twice(self):
        self.of_whats("put . -", "put . ann.1.0", "put . - " + " ".join("a" * 13), "out .", "out . " + " ".join(
            [f"ann.1.{i}" for i in range(13)]), "out . ann.1.0 ann.1.0", "out . ann.1.0 ann.1.1 ann.1.0")

    def test_signs(self):
        for sign in ("ab", "A", "1", "__", "!", "*", "*Sun", "*ninewords", "*sun.", "**", "*-", "#", "#ann", "#ann.1.0",
                     "#ann.0", "##", "#-", "#..", "-", "<", "a<", "'", ";", "\u00e4", "sun", "*su n#"):
            self.of_whats(f"put . - {sign}", f"put . - a {sign} b")

    def test_the_main_part(self):
        self.of_whats("move . .", "move . ann.1", "cut .", "strike . .", "line . row .", "cell . . ann.1 a",
                      "cell . ann.1 . a", "part .0", "part ..", "part .1", "part -", "part", "put . . a", "out . .",
                      "put .0 - a", "part ann.0", "move .0 .")

    def test_sides(self):
        for side in ("ann.1.0", "ann.1<", "<", "ann.1.0<>", "ann.1.0<<", "<ann.1.0", "-", ".", "ann.1.0 <", ".<", "ann.1.0=",
                     "ann.1.0.0<"):
            self.of_whats(f"mark . {side} ann.1.0> a b", f"mark . ann.1.0< {side} a b", f"note . {side} ann.1.0> a",
                          f"note . ann.1.0< {side} a")

    def test_words(self):
        for word in ("A", "a1", "ninewords", "!", "_", ".", "*a", "a.b", "#.", "1"):
            self.of_whats(f"mark . ann.1.0< ann.1.0> {word} a", f"mark . ann.1.0< ann.1.0> a {word}", f"bring {word}",
                          f"drop {word}", f"note . ann.1.0< ann.1.0> {word}", f"leave . ann {word} yes",
                          f"leave . ann read {word}", f"line . {word} -")
            if word != "!":
                self.of_whats(f"cell . ann.1 ann.2 {word}")
        self.of_whats("mark . ann.1.0< ann.1.0> - a", "note . ann.1.0< ann.1.0> -", "bring -", "drop !",
                      "cell . ann.1 ann.2 -", "leave . ann own yes", "leave . ann read maybe", "leave . ann read True",
                      "leave . ann read Yes", "line . rows -", "line . row !", "nothings", "Nothing", "", "none", "-",
                      "refer .", "picture sun", "pour", "pour 0", "pour 0,0", "pour 0,0,0,0", "pour 0 0 0", "pour -")

    def test_back_and_again_of_a_number_that_is_not_lesser(self):
        for word in ("back", "again"):
            for number in (5, 6, 99, MOST):
                self.of_whats(f"{word} {number}")
            self.refuse(f"ann 1 0,0,0 - {word} 1")
            self.assertEqual(read_deed(ROLL, f"ann 2 1,0,0 - {word} 1")[4], (word, 1))


class Bent(unittest.TestCase):
    def test_what_is_read_is_written_so(self):
        """Texts bent at random: what isn't refused is a deed, and just its own text."""
        chance = random.Random(8)
        texts = [head + " " + words for what, words in TEXTS for ahead, head in HEADS]
        signs = " .,-_*#!<>019abnoy\n"
        read = 0
        for step in range(20000):
            text = chance.choice(texts)
            for bend in range(chance.randint(1, 2)):
                place = chance.randrange(len(text))
                text = text[:place] + chance.choice(["", chance.choice(signs)]) + text[place + chance.randint(0, 1):]
            try:
                deed = read_deed(ROLL, text)
            except NoDeed:
                continue
            read += 1
            self.assertTrue(is_deed(ROLL, deed), text)
            self.assertEqual(shown_deed(deed), text)
        self.assertGreater(read, 200)


if __name__ == "__main__":
    unittest.main()
