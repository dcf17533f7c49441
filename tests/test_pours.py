"""Pours: [2], [29], [30]."""

import random
import unittest

from making import some_poured, told
from pagefolk.judging import Judge
from pagefolk.pours import greatest_pour, is_good_pour, known_counts
from pagefolk.sets import Folk
from plain import Plain

ROLL = ["ann", "bob"]
THREE = ["ann", "bob", "cyd"]
# ann 1 is heard by bob 1, that by ann 2, that by bob 2, and so on.
TURNS = ["ann put . - a", "bob hears ann", "bob nothing", "ann hears bob", "ann nothing", "bob hears ann", "bob nothing",
         "ann hears bob", "ann nothing", "bob hears ann", "bob nothing", "ann hears bob"]


def folk_of(text, roll=ROLL):
    return Folk(roll, told(roll, text))


def turns(many=len(TURNS), *more):
    return "\n".join(TURNS[:many] + list(more))


class Known(unittest.TestCase):
    def test_counts_known_to_all(self):
        folk = folk_of(turns(5))
        # ann 2 had heard bob 1, bob 1 had heard ann 1; ann 2 nobody had heard.
        for counts, wanted in (((0, 0), True), ((1, 0), True), ((0, 1), True), ((1, 1), True), ((2, 1), False), ((2, 0), False),
                               ((1, 2), False), ((9, 0), False)):
            self.assertIs(known_counts(folk, counts), wanted, counts)

    def test_a_hand_that_says_nothing(self):
        folk = folk_of("ann nothing\nbob hears ann\nbob nothing\nann hears bob\nann nothing", THREE)
        self.assertIs(known_counts(folk, (1, 0, 0)), False)
        self.assertIs(known_counts(folk, (0, 1, 0)), False)
        self.assertIs(known_counts(folk, (0, 0, 0)), True)

    def test_no_deeds(self):
        self.assertIs(known_counts(Folk(ROLL, []), (0, 0)), True)
        self.assertIs(known_counts(Folk(ROLL, []), (1, 0)), False)

    def test_held_against_the_words(self):
        chance = random.Random(29)
        for turn in range(60):
            maker, pours = some_poured(chance, chance.choice([ROLL, THREE]), lambda past, hand: None, 1)
            folk, plain = Folk(maker.roll, maker.deeds()), Plain(maker.roll, maker.deeds())
            for turn_of in range(20):
                counts = tuple(chance.randint(0, count + 1) for count in folk.counts())
                self.assertIs(known_counts(folk, counts), plain.counts_known(counts, plain.all))


class Good(unittest.TestCase):
    def pour(self, text, wanted, roll=ROLL):
        """The last deed told is a pour."""
        deeds = told(roll, text)
        folk = Folk(roll, deeds)
        self.assertEqual(deeds[-1][4][0], "pour")
        self.assertIs(is_good_pour(folk, deeds[-1][:2]), wanted)
        self.assertIs(Judge(folk).good(deeds[-1][:2]), wanted)
        self.assertIs(Plain(roll, deeds).good(deeds[-1][:2]), wanted)

    def test_a_good_one(self):
        self.pour(turns(12, "ann pour 1,0"), True)
        self.pour(turns(12, "ann pour 1,1"), True)

    def test_counts_that_are_no_whole_set_s(self):
        self.pour(turns(12, "ann pour 0,1"), False)
        self.pour(turns(12, "ann pour 2,0"), False)

    def test_all_0(self):
        self.pour(turns(12, "ann pour 0,0"), False)

    def test_beyond_the_past(self):
        self.pour(turns(12, "ann pour 9,9"), False)
        self.pour("ann pour 1,0", False)

    def test_on_the_main_alone(self):
        self.pour(turns(12, "ann/ann.x pour 1,0"), False)

    def test_the_leave_to_write(self):
        end = ("bob hears ann", "bob pour 1,0")
        self.pour(turns(12, *end), False)
        self.pour(turns(12, "ann leave . bob write yes", *end), True)
        self.pour(turns(12, "ann leave . bob note yes", *end), False)
        self.pour(turns(12, "ann leave . bob write yes", "ann leave . bob write no", *end), False)
        self.pour(turns(12, "ann leave . bob write yes", "ann back 4", *end), False)

    def test_deeds_beyond_that_had_not_heard_all_of_the_counts(self):
        begin = ["ann nothing", "bob nothing", "ann nothing"]
        rest = ["bob hears ann", "bob nothing", "ann hears bob", "ann nothing", "bob hears ann", "bob nothing", "ann hears bob"]
        # bob 1 is beyond (2, 0) and had heard nothing.
        self.pour("\n".join(begin + rest + ["ann nothing", "bob hears ann", "bob nothing", "ann hears bob", "ann pour 2,0"]),
                  False)
        self.pour("\n".join(begin + rest + ["ann nothing", "bob hears ann", "bob nothing", "ann hears bob", "ann pour 2,1"]),
                  True)

    def test_a_good_word_beyond_about_a_deed_within(self):
        for word in ("back", "again"):
            text = "\n".join(["ann put . - a", f"ann {word} 1"] + TURNS[1:])
            self.pour(text + "\nann pour 1,0", False)
            self.pour(text + "\nann pour 2,0", True)

    def test_a_word_that_is_not_good_speaks_against_nothing(self):
        self.pour(turns(4, "ann back 1", *TURNS[5:], "ann pour 1,0"), True)

    def test_each_hand_has_a_deed_in_whose_past_they_are_known(self):
        # Of (1, 0): bob must have a deed whose past has one of ann's that had heard... ann 1 is known where bob 1 is heard.
        self.pour(turns(4, "ann pour 1,0"), False)
        self.pour(turns(5, "ann pour 1,0"), False)
        self.pour(turns(7, "ann hears bob", "ann pour 1,0"), True)
        self.pour(turns(7, "ann pour 1,0"), False)

    def test_the_pourer_s_own_past_will_do(self):
        # (1, 0) is known to all in the past of bob 2, and for ann in that of the pour itself: ann has no later deed.
        text = "ann nothing\nbob hears ann\nbob nothing\nbob nothing\nann hears bob\nann pour 1,0"
        self.pour(text, True)
        self.pour("ann nothing\nbob hears ann\nbob nothing\nann hears bob\nann pour 1,0", False)

    def test_hands_that_say_nothing(self):
        self.pour(turns(12, "ann pour 1,0,0"), False, THREE)

    def test_branches_within(self):
        for begin, counts, wanted in ((["ann/ann.x nothing"], "1,0", False), (["ann/ann.x nothing", "ann drop x"], "1,0", False),
                                      (["ann/ann.x nothing", "ann drop x"], "2,0", True),
                                      (["ann/ann.x nothing", "ann bring x"], "2,0", True),
                                      (["ann/ann.x nothing", "ann bring y"], "2,0", False),
                                      (["ann/bob.x nothing", "ann bring x"], "2,0", False),
                                      (["ann drop x", "ann/ann.x nothing"], "2,0", True)):
            self.pour("\n".join(begin + ["ann nothing"] + TURNS[1:] + [f"ann pour {counts}"]), wanted)
        word = ["ann/bob.x nothing", "bob hears ann", "bob bring x", "bob nothing"] + TURNS[3:]
        self.pour("\n".join(word + ["ann pour 1,1"]), False)

    def test_held_against_the_words(self):
        tried = {True: 0, False: 0}
        for turn in range(150):
            chance = random.Random(turn)

            def counts_told(past, hand):
                most = [len([deed for deed in past if deed[0] == one]) for one in roll]
                greatest = greatest_pour(Folk(roll, past), hand)
                if greatest is None or chance.random() < 0.3:
                    return tuple(chance.randint(0, count) for count in most)
                return tuple(max(0, count - chance.choice((0, 0, 0, 1))) for count in greatest)
            roll = chance.choice([ROLL, THREE])
            maker, pours = some_poured(chance, roll, counts_told, 2)
            folk, plain = Folk(roll, maker.deeds()), Plain(roll, maker.deeds())
            for name in pours:
                tried[plain.good(name)] += 1
                self.assertIs(is_good_pour(folk, name), plain.good(name))
        self.assertGreater(min(tried.values()), 40)


class Greatest(unittest.TestCase):
    def test_or_none(self):
        self.assertIsNone(greatest_pour(Folk(ROLL, []), "ann"))
        self.assertIsNone(greatest_pour(folk_of("ann nothing"), "ann"))
        self.assertIsNone(greatest_pour(folk_of(turns(), THREE), "ann"))
        self.assertIsNone(greatest_pour(folk_of("ann/ann.x nothing\nbob hears ann\nbob nothing\nall hear\nann nothing\nbob nothing"
                                                "\nall hear\nann nothing\nbob nothing\nall hear"), "ann"))

    def test_the_greatest_of_several(self):
        folk = folk_of(turns())
        # All know (3, 2), and in the past of bob 3 that of ann 2 and bob 2, in that of ann 3 only that of bob 1.
        self.assertEqual(greatest_pour(folk, "ann"), (2, 2))
        self.assertEqual(greatest_pour(folk, "bob"), (2, 1))

    def test_whatever_leave_the_hand_has(self):
        self.assertEqual(greatest_pour(folk_of(turns(11)), "bob"), (2, 1))

    def test_each_is_good_and_none_greater_is(self):
        told_some = 0
        for turn in range(120):
            chance = random.Random(turn)
            roll = chance.choice([ROLL, THREE])
            seen = []
            some_poured(chance, roll, lambda past, hand: seen.append((past, hand)), 1)
            past, hand = seen[0]
            past = past[:28] if len(roll) == 2 else past[:22]
            plain = Plain(roll, past)
            for one in roll:
                answer = greatest_pour(Folk(roll, past), one)
                self.assertEqual(answer, plain.greatest_pour(one))
                told_some += answer is not None
        self.assertGreater(told_some, 60)


if __name__ == "__main__":
    unittest.main()
