"""Good words, standing, grounds, leaves and good deeds: [2], [3] (d), [11] to [16]."""

import random
import unittest

from making import KINDS, some_deeds, told
from pagefolk.judging import Judge
from pagefolk.letters import shown_name
from pagefolk.sets import Folk
from plain import Plain

ROLL = ["ann", "bob", "cyd"]
MAIN = ("", 0)
TRY = ("bob", "try")


def judge_of(text, roll=ROLL):
    deeds = told(roll, text)
    return Judge(Folk(roll, deeds))


def bad_ones(text, roll=ROLL):
    """The names, as texts, of the deeds that are not good, sorted."""
    deeds = told(roll, text)
    judge = Judge(Folk(roll, deeds))
    return sorted([shown_name(deed[:2]) for deed in deeds if not judge.good(deed[:2])])


class Good(unittest.TestCase):
    def bad(self, text, *names):
        self.assertEqual(bad_ones(text), sorted(names))

    def test_nothing(self):
        self.bad("ann nothing\nbob nothing\nbob/ann.x nothing\ncyd/cyd.y nothing")
        self.bad("ann drop x\nbob/ann.x nothing\nbob hears ann\nbob/ann.x nothing\nbob nothing", "bob.2")

    def test_parts(self):
        self.bad("ann part .\nann part ann.1\nann part ann.9", "ann.3")
        self.bad("bob part .\nann part .\nbob hears ann\nbob part ann.1", "bob.1", "bob.2")
        self.bad("ann part .\nann leave ann.1 bob write yes\nbob hears ann\nbob part .\nbob part ann.1\nbob part bob.2",
                 "bob.1")

    def test_a_part_of_another_kind_of_deed_is_none(self):
        self.bad("ann put . - a\nann part ann.1\nann line . row -\nann part ann.3\nann nothing\nann cut ann.5",
                 "ann.2", "ann.4", "ann.6")

    def test_a_part_not_heard_of(self):
        self.bad("ann part .\ncyd hears ann\nann part .\nann leave . cyd write yes\ncyd part ann.2", "cyd.1")

    def test_parts_that_are_cut(self):
        self.bad("ann part .\nann cut ann.1\nann part ann.1\nann cut ann.1\nann put ann.1 - a\nann move ann.1 .",
                 "ann.3", "ann.4", "ann.5", "ann.6")

    def test_parts_within_one_that_is_cut_are_there(self):
        self.bad("ann part .\nann part ann.1\nann cut ann.1\nann put ann.2 - a\nann part ann.2")

    def test_a_cut_that_is_taken_back(self):
        self.bad("ann part .\nann cut ann.1\nann back 2\nann put ann.1 - a\nann again 2\nann put ann.1 - a", "ann.6")

    def test_a_part_that_is_taken_back(self):
        self.bad("ann part .\nann back 1\nann put ann.1 - a\nann again 1\nann put ann.1 - a", "ann.3")

    def test_moves(self):
        self.bad("ann part .\nann part .\nann move ann.1 ann.2\nann move ann.2 ann.1\nann move ann.1 ann.1\nann move ann.1 ."
                 "\nann move ann.9 .\nann move ann.1 ann.9", "ann.7", "ann.8")
        give = "ann part .\nann part .\nann leave ann.1 bob write yes\n"
        self.bad(give + "bob hears ann\nbob move ann.1 ann.2\nbob move ann.2 ann.1\nbob move ann.1 .\nbob move ann.1 ann.1",
                 "bob.1", "bob.2", "bob.3")
        self.bad(give + "ann leave ann.2 bob write yes\nbob hears ann\nbob move ann.1 ann.2\nbob move ann.2 ann.1")

    def test_leave_goes_by_birth_not_by_place(self):
        self.bad("ann part .\nann part .\nann leave ann.1 bob write yes\nann move ann.2 ann.1\nann move ann.1 ann.2\n"
                 "bob hears ann\nbob put ann.1 - a\nbob put ann.2 - a", "bob.2")

    def test_cuts(self):
        self.bad("ann part .\nann part .\nann leave ann.1 bob write yes\nbob hears ann\nbob cut ann.1\nbob cut ann.2", "bob.2")

    def test_puts(self):
        self.bad("ann put . - a b\nann put . ann.1.0 c\nann put . ann.1.1 c\nann put . ann.1.2 c\nann put . ann.4.0 c\n"
                 "ann put . ann.3.0 c\nann put . bob.1.0 c", "ann.4", "ann.5", "ann.7")
        self.bad("ann part .\nann put ann.1 - a\nann put . ann.2.0 b\nann put ann.1 ann.2.0 b", "ann.3")
        self.bad("ann put . - a\nann out . ann.1.0\nann put . ann.1.0 b\nann back 2\nann put . ann.1.0 b", "ann.3")
        self.bad("ann put . - a\nann back 1\nann put . ann.1.0 b\nann again 1\nann put . ann.1.0 b", "ann.3")
        self.bad("ann leave . bob write yes\nbob hears ann\nbob put . - a\ncyd hears ann\ncyd put . - a", "cyd.1")

    def test_references(self):
        self.bad("ann part .\nann put . - #ann.1 #. a\nann put . - #ann.2\nann put . - a #ann.9\nann put . - #ann.1 #cyd.1",
                 "ann.3", "ann.4", "ann.5")
        self.bad("ann part .\nann cut ann.1\nann put . - #ann.1\nann back 2\nann put . - #ann.1", "ann.3")

    def test_references_want_no_leave(self):
        self.bad("ann part .\nann part .\nann leave ann.1 bob write yes\nbob hears ann\nbob put ann.1 - #ann.2 #.")

    def test_outs(self):
        self.bad("ann put . - a b\nann out . ann.1.0\nann out . ann.1.1 ann.1.0\nann out . ann.1.1\nann out . ann.1.2",
                 "ann.3", "ann.5")
        self.bad("ann part .\nann put ann.1 - a\nann out . ann.2.0\nann out ann.1 ann.2.0", "ann.3")
        self.bad("ann put . - a\nbob hears ann\nbob out . ann.1.0\nann leave . bob write yes\nbob hears ann\nbob out . ann.1.0",
                 "bob.1")

    def test_outs_told_apart_are_both_good(self):
        self.bad("ann put . - a\nann leave . bob write yes\nbob hears ann\nbob out . ann.1.0\nann out . ann.1.0")

    def test_marks_and_notes(self):
        for kind, end in (("mark", "x on"), ("note", "x"), ("mark", "x -")):
            self.bad(f"ann put . - a b\nann {kind} . ann.1.0< ann.1.1> {end}\nann {kind} . ann.1.1< ann.1.0> {end}\n"
                     f"ann {kind} . ann.1.0< ann.1.2> {end}\nann {kind} . ann.1.3> ann.1.0> {end}", "ann.4", "ann.5")
            self.bad(f"ann put . - a b\nann out . ann.1.0\nann {kind} . ann.1.0< ann.1.1> {end}\n"
                     f"ann {kind} . ann.1.1< ann.1.0> {end}\nann {kind} . ann.1.1> ann.1.1> {end}", "ann.3", "ann.4")
            self.bad(f"ann part .\nann put ann.1 - a\nann {kind} . ann.2.0< ann.2.0> {end}", "ann.3")

    def test_who_may_write_may_note(self):
        begin = "ann put . - a\n"
        deeds = "bob hears ann\nbob note . ann.1.0< ann.1.0> x\nbob mark . ann.1.0< ann.1.0> x on"
        self.bad(begin + deeds, "bob.1", "bob.2")
        self.bad(begin + "ann leave . bob note yes\n" + deeds, "bob.2")
        self.bad(begin + "ann leave . bob write yes\n" + deeds)
        self.bad(begin + "ann leave . bob write yes\nann leave . bob note no\n" + deeds)
        self.bad(begin + "ann leave . bob read yes\nann leave . bob give yes\n" + deeds, "bob.1", "bob.2")

    def test_lines_strikes_and_cells(self):
        begin = "ann part .\nann line . row -\nann line . column -\nann line ann.1 row -\n"
        self.bad(begin + "ann line . row ann.2\nann line . row ann.3\nann line . column ann.2\nann line . column ann.3\n"
                 "ann line . row ann.4\nann line ann.1 row ann.4\nann line . row ann.1", "ann.6", "ann.7", "ann.9", "ann.11")
        self.bad(begin + "ann strike ann.1 ann.2\nann strike . ann.2\nann strike . ann.2\nann line . row ann.2\n"
                 "ann strike . ann.3\nann strike . ann.1", "ann.5", "ann.7", "ann.8", "ann.10")
        self.bad(begin + "ann cell . ann.2 ann.3 x\nann cell . ann.3 ann.2 x\nann cell . ann.2 ann.2 x\n"
                 "ann cell . ann.3 ann.3 x\nann cell ann.1 ann.2 ann.3 x\nann cell . ann.4 ann.3 x\nann cell . ann.2 ann.3 !",
                 "ann.6", "ann.7", "ann.8", "ann.9", "ann.10")
        self.bad(begin + "ann strike . ann.2\nann cell . ann.2 ann.3 x\nann back 5\nann cell . ann.2 ann.3 x\n"
                 "ann back 3\nann cell . ann.2 ann.3 x", "ann.6", "ann.10")
        tries = "bob hears ann\nbob line . row -\nbob strike . ann.2\nbob cell . ann.2 ann.3 x"
        self.bad(begin + tries, "bob.1", "bob.2", "bob.3")
        self.bad(begin + "ann leave . bob write yes\n" + tries, "bob.3")

    def test_leaves(self):
        self.bad("ann part .\nann leave . bob give yes\nbob hears ann\nbob leave . cyd read yes\nbob leave ann.1 cyd give yes\n"
                 "bob leave ann.9 cyd give yes\ncyd hears bob\ncyd leave . ann read yes\ncyd leave ann.1 bob write yes\n"
                 "bob put . - a", "bob.3", "cyd.1", "bob.4")
        self.bad("bob leave . bob give yes\nbob leave . bob write yes", "bob.1", "bob.2")
        self.bad("ann/ann.x leave . bob read yes\nann leave . bob read yes", "ann.1")
        self.bad("ann part .\nann cut ann.1\nann leave ann.1 bob read yes", "ann.3")

    def test_leaves_taken(self):
        self.bad("ann leave . bob write yes\nbob hears ann\nbob put . - a\nann leave . bob write no\nbob put . - b\n"
                 "bob hears ann\nbob put . - c", "bob.3")
        self.bad("ann leave . bob write yes\nann back 1\nbob hears ann\nbob put . - a\nann again 1\nbob hears ann\nbob put . - a",
                 "bob.1")

    def test_leaves_asked_along_birth_chains(self):
        begin = "ann part .\nann part ann.1\nann part ann.2\nann leave ann.1 bob write yes\n"
        self.bad(begin + "bob hears ann\nbob put . - a\nbob put ann.1 - a\nbob put ann.2 - a\nbob put ann.3 - a", "bob.1")
        self.bad(begin + "ann leave ann.2 bob write no\nbob hears ann\nbob put ann.1 - a\nbob put ann.2 - a\nbob put ann.3 - a",
                 "bob.2", "bob.3")

    def test_birth_chains_go_through_parts_that_do_not_count(self):
        self.bad("ann part .\nann part ann.1\nann leave ann.1 bob write yes\nann back 1\nbob hears ann\nbob put ann.2 - a\n"
                 "bob put ann.1 - a", "bob.2")

    def test_a_leave_of_which_one_has_not_heard(self):
        self.bad("ann leave . bob write yes\nbob put . - a\nbob hears ann\nbob put . - a", "bob.1")

    def test_on_the_main_alone(self):
        self.bad("ann/bob.try leave . bob read yes\nann/bob.try bring x\nann/bob.try drop x\nann/bob.try pour 0,0,0\n"
                 "ann/ann.x drop x\nann drop x", "ann.1", "ann.2", "ann.3", "ann.4", "ann.5")

    def test_a_branch_of_which_there_is_a_good_word(self):
        for word in ("bring", "drop"):
            self.bad(f"ann leave . bob write yes\nbob hears ann\nbob/bob.try put . - a\nbob {word} try\nbob/bob.try put . - a\n"
                     f"ann/bob.try put . - b\nann hears bob\nann/bob.try put . - c\nann/bob.try nothing\nann/bob.try back 2\n"
                     f"ann/bob.other put . - c", "bob.3", "ann.3", "ann.4", "ann.5")

    def test_a_word_about_a_branch_that_is_not_good_shuts_nothing(self):
        self.bad("bob/bob.try nothing\nbob bring try\nbob/bob.try nothing", "bob.2")

    def test_what_is_on_a_branch_is_there_on_it_alone(self):
        begin = "ann leave . bob write yes\nbob hears ann\nbob/bob.try part .\nbob/bob.try put . - a\n"
        self.bad(begin + "bob put . bob.2.0 a\nbob put bob.1 - a\nbob/bob.x put . bob.2.0 a\nbob/bob.try put . bob.2.0 b\n"
                 "bob/bob.try put bob.1 - #bob.1", "bob.3", "bob.4", "bob.5")
        self.bad(begin + "bob bring try\nbob put . bob.2.0 a\nbob put bob.1 - a\nbob/bob.x put . bob.2.0 a")
        self.bad(begin + "bob drop try\nbob put . bob.2.0 a\nbob put bob.1 - a\nbob/bob.x put . bob.2.0 a",
                 "bob.4", "bob.5", "bob.6")


class Words(unittest.TestCase):
    def bad(self, text, *names):
        self.assertEqual(bad_ones(text), sorted(names))

    def test_back_and_again_on_each_kind(self):
        for words in ("part .", "move ann.1 .", "cut ann.1", "put . - a", "out . ann.2.0", "mark . ann.2.0< ann.2.0> a b",
                      "note . ann.2.0< ann.2.0> a", "line . row -", "strike . ann.3", "cell . ann.3 ann.4 a",
                      "leave . bob read yes"):
            begin = "ann part .\nann put . - a\nann line . row -\nann line . column -\nann nothing\n"
            self.bad(begin + f"ann {words}\nann back 6\nann again 6\nann again 6\nann back 6\nann back 6")

    def test_never_on_words_pours_and_nothing(self):
        for words in ("nothing", "back 1", "again 1", "bring x", "drop x", "pour 0,0,0"):
            text = f"ann part .\nann {words}\nann back 2\nann again 2"
            self.bad(text, "ann.3", "ann.4", *(["ann.2"] if "pour" in words else []))

    def test_a_word_on_a_deed_that_is_not_good_is_good(self):
        self.bad("bob put . - a\nbob back 1\nbob again 1", "bob.1")

    def test_on_its_own_branch_alone(self):
        self.bad("ann put . - a\nann/ann.x put . - a\nann/ann.x back 1\nann back 2\nann/ann.x back 2\nann back 1\n"
                 "ann/ann.y back 2", "ann.3", "ann.4", "ann.7")

    def test_known_to_all(self):
        known = "ann put . - a\nbob hears ann\nbob nothing\ncyd hears ann\ncyd nothing\n"
        self.bad(known + "ann back 1")
        self.bad(known + "ann hears bob\nann back 1")
        self.bad(known + "ann hears bob\nann hears cyd\nann back 1\nann again 1", "ann.2", "ann.3")

    def test_known_though_it_was_taken_back(self):
        self.bad("ann put . - a\nbob hears ann\nbob nothing\nann back 1\ncyd hears ann\ncyd nothing\nall hear\nann again 1",
                 "ann.3")

    def test_bring_and_drop_once(self):
        for one in ("bring", "drop"):
            for other in ("bring", "drop"):
                self.bad(f"ann {one} x\nann {other} x\nann {other} y", "ann.2")

    def test_bring_wants_the_leave_to_write_for_the_main_part(self):
        self.bad("bob bring try\nbob drop try\nbob bring try", "bob.1", "bob.3")
        self.bad("ann leave . bob write yes\nbob bring try\nbob hears ann\nbob bring try", "bob.1")
        self.bad("ann part .\nann leave ann.1 bob write yes\nann leave . bob note yes\nbob hears ann\nbob bring try", "bob.1")

    def test_one_s_own_branch(self):
        judge = judge_of("ann drop try\nbob drop try\nann bring odd")
        self.assertEqual([judge.word_of((hand, word)) for hand in ROLL for word in ("try", "odd")],
                         ["drop", "bring", "drop", None, None, None])
        self.assertIsNone(judge_of("bob bring try").word_of(TRY))
        self.assertEqual(judge_of("bob bring try\nbob drop try").word_of(TRY), "drop")

    def test_known(self):
        judge = judge_of("ann nothing\nbob hears ann\nbob nothing\ncyd hears bob\ncyd nothing\nann hears cyd\nann nothing\n"
                         "bob nothing\nall hear\nbob nothing")
        self.assertIs(judge.known(("ann", 1), ("ann", 2)), True)
        self.assertIs(judge.known(("ann", 1), ("bob", 2)), False)
        self.assertIs(judge.known(("ann", 1), ("cyd", 1)), False)
        self.assertIs(judge.known(("bob", 1), ("ann", 2)), False)
        self.assertIs(judge.known(("bob", 1), ("bob", 3)), True)
        self.assertIs(judge.known(("cyd", 1), ("bob", 3)), False)
        self.assertIs(judge.known(("ann", 2), ("bob", 3)), False)

    def test_a_hand_that_says_nothing(self):
        judge = judge_of("ann nothing\nbob hears ann\nbob nothing\nann hears bob\nann nothing\nbob hears ann\nbob nothing")
        self.assertIs(judge.known(("ann", 1), ("bob", 2)), False)
        two = judge_of("ann nothing\nbob hears ann\nbob nothing\nann hears bob\nann nothing", ["ann", "bob"])
        self.assertIs(two.known(("ann", 1), ("ann", 2)), True)


class Standing(unittest.TestCase):
    def stand(self, text, name=("ann", 1)):
        return judge_of(text).stands(name)

    def test_the_last_word_tells(self):
        rows = ["ann put . - a", "ann back 1", "ann again 1", "ann back 1", "ann back 1", "ann again 1"]
        for many, wanted in ((1, True), (2, False), (3, True), (4, False), (5, False), (6, True)):
            self.assertIs(self.stand("\n".join(rows[:many])), wanted)

    def test_words_that_are_not_good_turn_nothing(self):
        self.assertIs(self.stand("ann put . - a\nann/ann.x back 1"), True)
        self.assertIs(self.stand("ann put . - a\nbob hears ann\nbob nothing\ncyd hears ann\ncyd nothing\nall hear\nann back 1"),
                      True)
        self.assertIs(self.stand("ann nothing\nann back 1"), True)

    def test_a_word_on_a_branch(self):
        self.assertIs(self.stand("ann/bob.try put . - a\nann/bob.try back 1"), False)
        self.assertIs(self.stand("ann/bob.try put . - a\nbob drop try\nann/bob.try back 1"), False)
        self.assertIs(self.stand("ann/bob.try put . - a\nbob drop try\nann hears bob\nann/bob.try back 1"), True)


class Grounds(unittest.TestCase):
    TEXT = """ann leave . bob write yes
bob hears ann
bob put . - a
bob/bob.try put . - b
bob/bob.try nothing
ann put . - c
ann back 2
bob hears ann
bob/bob.try put . - d
bob put . - e
cyd put . - f
ann hears bob
ann hears cyd
ann/bob.try nothing
bob bring try
ann hears bob
ann nothing"""

    def test_ground(self):
        judge = judge_of(self.TEXT)
        self.assertEqual(judge.ground(("ann", 1)), [])
        self.assertEqual(judge.ground(("bob", 5)), [("ann", 1), ("bob", 1), ("ann", 3)])
        self.assertEqual(judge.ground(("bob", 4)), [("ann", 1), ("bob", 1), ("ann", 3), ("bob", 2), ("bob", 3)])
        self.assertEqual(judge.ground(("ann", 4)), [("ann", 1), ("bob", 1), ("ann", 3), ("bob", 2), ("bob", 3), ("bob", 4),
                                                    ("bob", 5)])
        self.assertEqual(judge.ground(("ann", 5)), [("ann", 1), ("bob", 1), ("ann", 3), ("bob", 2), ("bob", 3), ("bob", 4),
                                                    ("bob", 5), ("ann", 4), ("bob", 6)])

    def test_counting(self):
        deeds = told(ROLL, self.TEXT)
        ahead = Judge(Folk(ROLL, deeds[:9]))
        self.assertEqual(ahead.counting(), [("ann", 1), ("bob", 1), ("ann", 3), ("bob", 5)])
        self.assertEqual(ahead.counting(TRY), [("ann", 1), ("bob", 1), ("ann", 3), ("bob", 2), ("bob", 3), ("bob", 4),
                                               ("bob", 5)])
        self.assertEqual(ahead.counting(("ann", "try")), ahead.counting())
        judge = Judge(Folk(ROLL, deeds))
        self.assertEqual(judge.counting(), judge.counting(TRY))
        self.assertEqual(len(judge.counting()), 10)

    def test_what_is_told_is_the_asker_s_own(self):
        folk = Folk(ROLL, told(ROLL, self.TEXT))
        judge = Judge(folk)
        for asked in (lambda: judge.ground(("ann", 4)), judge.counting, lambda: judge.counting(TRY), folk.deeds, folk.names):
            kept = list(asked())
            asked().clear()
            self.assertEqual(asked(), kept)
        self.assertEqual(folk.deeds(), Folk(ROLL, told(ROLL, self.TEXT)).deeds())


class Whole(unittest.TestCase):
    def sets(self, many, seed):
        for turn in range(many):
            chance = random.Random(seed + turn)
            roll = chance.choice([["ann", "bob"], ROLL, ["dan", "ann", "cyd", "bob"]])
            yield roll, some_deeds(chance, roll, chance.randint(5, 35), KINDS + ["pour"])

    def test_held_against_the_words(self):
        for roll, deeds in self.sets(150, 16):
            folk = Folk(roll, deeds)
            judge, plain = Judge(folk), Plain(roll, deeds)
            for name in folk.names():
                self.assertIs(judge.good(name), plain.good(name))
                self.assertIs(judge.stands(name), plain.stands(name, plain.all))
                self.assertEqual(judge.ground(name), plain.ground(name))
                for by in folk.names()[::4]:
                    self.assertIs(judge.known(name, by), plain.known(name, plain.past(by)))
            for branch in ((roll[0], "try"), (roll[-1], "odd"), ("ann", "none")):
                self.assertEqual(judge.word_of(branch), plain.word_of(branch))
                self.assertEqual(judge.counting(branch), plain.counting(plain.all, branch))
            self.assertEqual(judge.counting(), plain.counting(plain.all))

    def test_good_or_not_never_changes_by_what_comes_later(self):
        for roll, deeds in self.sets(60, 900):
            whole = Judge(Folk(roll, deeds))
            for many in range(0, len(deeds), 3):
                part = Folk(roll, deeds[:many])
                judge = Judge(part)
                for name in part.names():
                    self.assertIs(judge.good(name), whole.good(name))
                    self.assertEqual(judge.ground(name), whole.ground(name))

    def test_four_hundred_deeds(self):
        deeds = some_deeds(random.Random(400), ["ann", "bob", "cyd", "dan", "eve", "fay"], 385)
        judge = Judge(Folk(["ann", "bob", "cyd", "dan", "eve", "fay"], deeds))
        self.assertEqual([name for name in judge.counting() if not judge.good(name)], [])


if __name__ == "__main__":
    unittest.main()
