"""The document, and taking back and branches by what is shown: [1], [2], [3] (e), (f), [23], [24]."""

import copy
import random
import unittest

import plain
from making import some_deeds, told
from pagefolk.documents import document
from pagefolk.facts import facts_of
from pagefolk.judging import Judge
from pagefolk.sets import Folk

ROLL = ["ann", "bob"]
MAIN = ("", 0)
NO_TABLE = ([], [], [])


def facts(text, branch=None, roll=ROLL):
    return facts_of(Folk(roll, told(roll, text)), branch)


def entries(text, hand=None, branch=None):
    return document(facts(text, branch), ROLL, hand)


def n(number):
    return ("ann", number)


class Numbers(unittest.TestCase):
    def numbers(self, text, *wanted, hand=None):
        self.assertEqual([entry[:2] for entry in entries(text, hand)], [("", MAIN)] + list(wanted))

    def test_the_main_part_alone(self):
        self.assertEqual(entries("ann nothing"), [("", MAIN, [], [], NO_TABLE)])
        self.assertEqual(document(facts_of(Folk(ROLL, [])), ROLL), [("", MAIN, [], [], NO_TABLE)])

    def test_parts_within_parts(self):
        self.numbers("ann part .\nann part ann.1\nann part .\nann part ann.2\nann part ann.1", ("1", n(1)), ("1.1", n(2)),
                     ("1.1.1", n(4)), ("1.2", n(5)), ("2", n(3)))

    def test_more_than_nine(self):
        self.numbers("\n".join(["ann part ."] * 11), *[(str(number), n(number)) for number in range(1, 12)])

    def test_moved_and_cut_parts(self):
        self.numbers("ann part .\nann part .\nann part .\nann move ann.1 .", ("1", n(2)), ("2", n(3)), ("3", n(1)))
        self.numbers("ann part .\nann part .\nann part ann.1\nann cut ann.1", ("1", n(2)))
        self.numbers("ann part .\nann part .\nann move ann.1 ann.2\nann move ann.2 ann.1", ("1", n(2)), ("1.1", n(1)))
        self.numbers("ann part .\nann part ann.1\nann back 1")

    def test_parts_two_hundred_deep(self):
        text = "\n".join(["ann part ."] + [f"ann part ann.{number}" for number in range(1, 200)])
        self.numbers(text, *[(".".join(["1"] * number), n(number)) for number in range(1, 201)])


class Rows(unittest.TestCase):
    def row(self, text, *wanted, hand=None):
        self.assertEqual([sign[1] for sign in entries(text, hand)[0][2]], list(wanted))

    def test_signs_and_pictures(self):
        self.assertEqual(entries("ann put . - a _ . , *sun"), [("", MAIN, [
            (("ann", 1, 0), "a", []), (("ann", 1, 1), " ", []), (("ann", 1, 2), ".", []), (("ann", 1, 3), ",", []),
            (("ann", 1, 4), "*sun", [])], [], NO_TABLE)])

    def test_references(self):
        begin = "ann part .\nann part ann.1\nann put . - #. #ann.1 #ann.2\n"
        self.row(begin, "#", "#1", "#1.1")
        self.row(begin + "ann cut ann.2", "#", "#1", "#?")
        self.row(begin + "ann cut ann.1", "#", "#?", "#?")
        self.row(begin + "ann back 1", "#", "#?", "#?")
        self.row(begin + "ann move ann.2 .", "#", "#1", "#2")

    def test_references_from_within(self):
        some = entries("ann part .\nann part .\nann put ann.1 - #. #ann.2 #ann.1")
        self.assertEqual([sign[1] for sign in some[1][2]], ["#", "#2", "#1"])

    def test_marks_notes_and_tables(self):
        some = entries("ann part .\nann put ann.1 - a b\nann mark ann.1 ann.2.0< ann.2.0> b on\nann note ann.1 ann.2.0> ann.2.1> x"
                       "\nann line ann.1 row -\nann line ann.1 column -\nann cell ann.1 ann.5 ann.6 w\n"
                       "ann note ann.1 ann.2.1> ann.2.1> y")
        self.assertEqual(some[0], ("", MAIN, [], [], NO_TABLE))
        self.assertEqual(some[1], ("1", n(1), [(("ann", 2, 0), "a", [("b", "on")]), (("ann", 2, 1), "b", [])],
                                   [(n(4), "x", ("ann", 2, 1)), (n(8), "y", None)], ([n(5)], [n(6)], [["w"]])))
        self.assertEqual(len(some), 2)


class Closed(unittest.TestCase):
    BEGIN = """ann part .
ann part .
ann part .
ann part ann.2
ann put . - #ann.2 #ann.4 #ann.3
ann put ann.2 - a
ann leave . bob read yes
"""

    def test_to_nobody_and_to_the_founder_nothing_is(self):
        for hand in (None, "ann"):
            some = entries(self.BEGIN + "ann leave . ann read no", hand)
            self.assertEqual([entry[:2] for entry in some], [("", MAIN), ("1", n(1)), ("2", n(2)), ("2.1", n(4)), ("3", n(3))])
            self.assertEqual([sign[1] for sign in some[0][2]], ["#2", "#2.1", "#3"])

    def test_a_closed_part_is_counted_and_its_inner_ones_have_no_entries(self):
        some = entries(self.BEGIN + "ann leave ann.2 bob read no", "bob")
        self.assertEqual([entry[:2] for entry in some], [("", MAIN), ("1", n(1)), ("2", n(2)), ("3", n(3))])
        self.assertEqual(some[2], ("2", n(2), None, None, None))
        self.assertEqual([sign[1] for sign in some[0][2]], ["#2", "#?", "#3"])

    def test_the_main_part_closed(self):
        self.assertEqual(entries("ann part .\nann put . - a", "bob"), [("", MAIN, None, None, None)])
        self.assertEqual(entries("ann part .\nann leave ann.1 bob read yes", "bob"), [("", MAIN, None, None, None)])

    def test_other_leaves_open_nothing(self):
        for to in ("write", "note", "give"):
            self.assertEqual(entries(f"ann leave . bob {to} yes", "bob"), [("", MAIN, None, None, None)])

    def test_an_inner_part_open_by_its_birth(self):
        text = self.BEGIN + "ann leave ann.2 bob read no\nann move ann.4 ann.1"
        some = entries(text, "bob")
        self.assertEqual([entry[:2] for entry in some], [("", MAIN), ("1", n(1)), ("1.1", n(4)), ("2", n(2)), ("3", n(3))])
        self.assertEqual(some[2], ("1.1", n(4), None, None, None))

    def test_leaves_that_do_not_count(self):
        self.assertEqual(entries("ann leave . bob read yes\nann back 1", "bob"), [("", MAIN, None, None, None)])
        self.assertEqual(entries("ann leave . bob read yes\nann leave . bob read no\nann back 2", "bob"),
                         [("", MAIN, [], [], NO_TABLE)])


class Whole(unittest.TestCase):
    def test_held_against_the_words(self):
        for turn in range(120):
            chance = random.Random(turn)
            roll = chance.choice([ROLL, ["cyd", "ann", "bob"]])
            deeds = some_deeds(chance, roll, chance.randint(5, 40))
            for branch in (None, (roll[0], "try")):
                some = facts_of(Folk(roll, deeds), branch)
                kept = copy.deepcopy(some)
                for hand in [None] + roll:
                    self.assertEqual(document(some, roll, hand), plain.document(some, roll, hand))
                for entry in document(some, roll):
                    entry[2].append("x")
                self.assertEqual(some, kept)

    def test_what_is_shown_hangs_on_the_deeds_alone(self):
        for turn in range(30):
            chance = random.Random(turn)
            deeds = some_deeds(chance, ROLL, 25)
            shown = document(facts_of(Folk(ROLL, deeds)), ROLL)
            chance.shuffle(deeds)
            self.assertEqual(document(facts_of(Folk(ROLL, deeds + deeds[:3])), ROLL), shown)


def with_nothing(deeds, names):
    """The deeds, those of the names doing nothing."""
    return [deed[:4] + (("nothing",),) if deed[:2] in names else deed for deed in deeds]


class TakenBack(unittest.TestCase):
    def test_back_and_again_is_as_if_both_did_nothing(self):
        """[3] (e): a deed that stands is taken back and done again by the hand's next two deeds, unheard in between."""
        tried = 0
        for turn in range(80):
            chance = random.Random(turn)
            deeds = some_deeds(chance, ROLL, 20, branches=[None])
            counts = Folk(ROLL, deeds).counts()
            seat = chance.randrange(2)
            for number in range(1, counts[seat] + 1):
                hand = ROLL[seat]
                words = []
                for n_th, word in enumerate(("back", "again")):
                    heard = list(counts)
                    heard[seat] += n_th
                    words.append((hand, heard[seat] + 1, tuple(heard), None, (word, number)))
                judge = Judge(Folk(ROLL, deeds + words))
                if judge.good(words[0][:2]) and judge.good(words[1][:2]) and Judge(Folk(ROLL, deeds)).stands((hand, number)):
                    tried += 1
                    self.assertEqual(facts_of(Folk(ROLL, deeds + words)), facts_of(Folk(ROLL, deeds)))
        self.assertGreater(tried, 100)

    def test_a_put_a_mark_a_note_or_a_cell_taken_back(self):
        tried = 0
        for turn in range(80):
            deeds = some_deeds(random.Random(turn), ROLL, 25, branches=[None])
            folk = Folk(ROLL, deeds)
            before = facts_of(folk)
            for deed in deeds:
                if deed[4][0] not in ("put", "mark", "note", "cell"):
                    continue
                seat = ROLL.index(deed[0])
                heard = folk.counts()
                word = (deed[0], heard[seat] + 1, heard, None, ("back", deed[1]))
                after = facts_of(Folk(ROLL, deeds + [word]))
                if after == before:
                    continue
                tried += 1
                self.assertEqual([sign[:5] for sign in after["signs"]], [sign[:5] for sign in before["signs"]])
                self.assertEqual([sign for sign in after["signs"] if sign[1][:2] != deed[:2]],
                                 [sign for sign in before["signs"] if sign[1][:2] != deed[:2]])
        self.assertGreater(tried, 100)


class Branches(unittest.TestCase):
    def test_dropped_or_not_spoken_of_as_if_its_deeds_did_nothing(self):
        dropped = 0
        for turn in range(120):
            deeds = some_deeds(random.Random(turn), ROLL, 30)
            judge = Judge(Folk(ROLL, deeds))
            for branch in (("ann", "try"), ("bob", "odd")):
                if judge.word_of(branch) != "bring":
                    dropped += judge.word_of(branch) == "drop"
                    bare = with_nothing(deeds, [deed[:2] for deed in deeds if deed[3] == branch])
                    for hand in (None, "ann", "bob"):
                        self.assertEqual(document(facts_of(Folk(ROLL, deeds)), ROLL, hand),
                                         document(facts_of(Folk(ROLL, bare)), ROLL, hand))
        self.assertGreater(dropped, 10)

    def test_brought_in_they_count_like_others(self):
        begin = "ann leave . bob read yes\nann put . - a\nann/ann.try put . ann.2.0 b\nann/ann.try mark . ann.2.0< ann.3.0> b on"
        self.assertEqual([sign[1:] for sign in entries(begin)[0][2]], [("a", [])])
        shown = [("a", [("b", "on")]), ("b", [("b", "on")])]
        self.assertEqual([sign[1:] for sign in entries(begin, branch=("ann", "try"))[0][2]], shown)
        self.assertEqual([sign[1:] for sign in entries(begin + "\nann bring try")[0][2]], shown)
        self.assertEqual([sign[1:] for sign in entries(begin + "\nann bring try", "bob")[0][2]], shown)
        self.assertEqual([sign[1:] for sign in entries(begin + "\nann drop try")[0][2]], [("a", [])])


if __name__ == "__main__":
    unittest.main()
