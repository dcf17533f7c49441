"""Hands: [2], [39], [40], [41]."""

import copy
import random
import unittest
from unittest.mock import ANY

from pagefolk.changes import cost_of, least_change
from pagefolk.deeds import is_deed
from pagefolk.documents import document
from pagefolk.errors import FolkError, NoDeed, NoLeave, NoThing, Poured, Unlike
from pagefolk.facts import facts_of
from pagefolk.hands import Hand
from pagefolk.judging import Judge
from pagefolk.sets import Folk

ROLL = ["ann", "bob"]
MAIN = ("", 0)
TRY = ("ann", "try")


def text_of(hand, part=MAIN):
    for entry in hand.view():
        if entry[1] == part:
            return None if entry[2] is None else "".join([sign[1] for sign in entry[2]])
    return None


def share(*hands):
    for hand in hands:
        for other in hands:
            for deed in other.lacking(hand.counts()):
                hand.hear(deed)


def ann_with(text=""):
    ann = Hand(ROLL, "ann")
    ann.put(MAIN, 0, text)
    return ann


def two_hands(text="", *leaves):
    ann, bob = ann_with(text), Hand(ROLL, "bob")
    for to in leaves:
        ann.does(("leave", MAIN, "bob", to, True))
    share(ann, bob)
    return ann, bob


class Refusing(unittest.TestCase):
    def refused(self, error, hand, call):
        before = (hand.deeds(), hand.counts(), hand.view())
        with self.assertRaises(FolkError) as caught:
            call()
        self.assertIs(type(caught.exception), error)
        self.assertEqual((hand.deeds(), hand.counts(), hand.view()), before)


class Puts(Refusing):
    def test_the_deed_that_is_made(self):
        ann = Hand(ROLL, "ann")
        self.assertEqual(ann.put(MAIN, 0, "hi"), [("ann", 1, (0, 0), None, ("put", MAIN, None, ("h", "i")))])
        self.assertEqual(ann.put(MAIN, 1, "o"), [("ann", 2, (1, 0), None, ("put", MAIN, ("ann", 1, 0), ("o",)))])
        self.assertEqual(ann.put(MAIN, 3, "."), [("ann", 3, (2, 0), None, ("put", MAIN, ("ann", 1, 1), (".",)))])
        self.assertEqual(text_of(ann), "hoi.")
        self.assertEqual(ann.counts(), (3, 0))

    def test_of_no_signs_no_deed(self):
        ann = ann_with("ab")
        for place in (0, 1, 2):
            self.assertEqual(ann.put(MAIN, place, ""), [])
        self.assertEqual(ann.counts(), (1, 0))

    def test_twelve_and_more(self):
        for many, lengths in ((1, [1]), (11, [11]), (12, [12]), (13, [12, 1]), (24, [12, 12]), (25, [12, 12, 1])):
            text = "".join(["abcdefghijklm. ,"[n % 16] for n in range(many)])
            ann = ann_with("xy")
            deeds = ann.put(MAIN, 1, text)
            self.assertEqual([len(deed[4][3]) for deed in deeds], lengths)
            self.assertEqual([deed[1] for deed in deeds], list(range(2, 2 + len(lengths))))
            self.assertEqual("".join([sign for deed in deeds for sign in deed[4][3]]), text)
            behinds = [("ann", 1, 0)] + [deed[:2] + (11,) for deed in deeds[:-1]]
            self.assertEqual([deed[4][2] for deed in deeds], behinds)
            self.assertEqual(text_of(ann), "x" + text + "y")
            self.assertTrue(all(is_deed(ROLL, deed) for deed in deeds))

    def test_behind_the_shown_sign_ahead_of_the_place(self):
        ann = ann_with("abc")
        ann.out(MAIN, 1, 1)
        self.assertEqual(ann.put(MAIN, 1, "x")[0][4][2], ("ann", 1, 0))
        self.assertEqual(ann.put(MAIN, 3, "y")[0][4][2], ("ann", 1, 2))
        self.assertEqual(text_of(ann), "axcy")

    def test_with_all_that_the_store_has_as_heard(self):
        ann, bob = two_hands("ab", "read", "write")
        self.assertEqual(bob.put(MAIN, 2, "c"), [("bob", 1, (3, 0), None, ("put", MAIN, ("ann", 1, 1), ("c",)))])
        share(ann, bob)
        self.assertEqual(ann.put(MAIN, 3, "d"), [("ann", 4, (3, 1), None, ("put", MAIN, ("bob", 1, 0), ("d",)))])

    def test_places_that_are_not_there(self):
        ann = ann_with("ab")
        for place in (-1, 3, 99, -99):
            self.refused(NoThing, ann, lambda: ann.put(MAIN, place, "x"))
            self.refused(NoThing, ann, lambda: ann.put(MAIN, place, ""))

    def test_parts_that_are_not_there(self):
        ann = ann_with("ab")
        part = ann.does(("part", MAIN))[:2]
        self.assertEqual(ann.put(part, 0, "x")[0][4][1], part)
        self.assertEqual(text_of(ann, part), "x")
        for other in (("ann", 1), ("ann", 9), ("bob", 1), ("nobody", 1)):
            self.refused(NoThing, ann, lambda: ann.put(other, 0, "x"))
        ann.does(("cut", part))
        self.refused(NoThing, ann, lambda: ann.put(part, 0, "x"))
        self.refused(NoThing, ann, lambda: ann.put(part, 0, ""))

    def test_signs_that_are_none(self):
        ann = ann_with("ab")
        for text in ("A", "aB", "1", "_", "a\n", "*", "!", "\t", "a-b"):
            self.refused(NoDeed, ann, lambda: ann.put(MAIN, 0, text))
            self.refused(NoDeed, ann, lambda: ann.put(("ann", 9), -1, text))
            self.refused(NoDeed, ann, lambda: ann.write(MAIN, text))

    def test_no_leave(self):
        ann, bob = two_hands("ab", "read")
        self.refused(NoLeave, bob, lambda: bob.put(MAIN, 0, "x"))
        self.refused(NoLeave, bob, lambda: bob.put(MAIN, 0, "x" * 30))
        self.refused(NoThing, bob, lambda: bob.put(MAIN, 3, "x"))
        self.refused(NoDeed, bob, lambda: bob.put(MAIN, 3, "X"))
        self.assertEqual(bob.put(MAIN, 0, ""), [])

    def test_closed_parts_have_no_places(self):
        ann, bob = two_hands("ab", "write")
        for call in (lambda: bob.put(MAIN, 0, "x"), lambda: bob.put(MAIN, 0, ""), lambda: bob.out(MAIN, 0, 0),
                     lambda: bob.write(MAIN, ""), lambda: bob.mark(MAIN, 0, 0, "b", "on"), lambda: bob.note(MAIN, 0, 0, "b")):
            self.refused(NoThing, bob, call)
        self.assertEqual(bob.does(("put", MAIN, None, ("x",)))[1], 1)


class Outs(Refusing):
    def test_the_deeds_that_are_made(self):
        ann = ann_with("abcde")
        self.assertEqual(ann.out(MAIN, 1, 2), [("ann", 2, (1, 0), None, ("out", MAIN, (("ann", 1, 1), ("ann", 1, 2))))])
        self.assertEqual(text_of(ann), "ade")
        self.assertEqual(ann.out(MAIN, 0, 3)[0][4][2], (("ann", 1, 0), ("ann", 1, 3), ("ann", 1, 4)))
        self.assertEqual(text_of(ann), "")

    def test_none_taken_out(self):
        ann = ann_with("ab")
        for place in (0, 1, 2):
            self.assertEqual(ann.out(MAIN, place, 0), [])
        self.assertEqual(ann.counts(), (1, 0))

    def test_twelve_and_more(self):
        for many, lengths in ((1, [1]), (12, [12]), (13, [12, 1]), (25, [12, 12, 1])):
            ann = ann_with("abcdefghijklmnopqrstuvwxyz.,")
            before = [sign[0] for sign in ann.view()[0][2]]
            deeds = ann.out(MAIN, 2, many)
            self.assertEqual([len(deed[4][2]) for deed in deeds], lengths)
            self.assertEqual([name for deed in deeds for name in deed[4][2]], before[2:2 + many])
            self.assertEqual([sign[0] for sign in ann.view()[0][2]], before[:2] + before[2 + many:])

    def test_stretches_that_are_not_there(self):
        ann = ann_with("abc")
        for place, many in ((0, 4), (3, 1), (4, 0), (-1, 1), (-1, 2), (1, -1), (2, 2), (-1, 0), (3, -1)):
            self.refused(NoThing, ann, lambda: ann.out(MAIN, place, many))
        self.refused(NoThing, ann, lambda: ann.out(("ann", 1), 0, 0))

    def test_no_leave(self):
        ann, bob = two_hands("ab", "read")
        self.refused(NoLeave, bob, lambda: bob.out(MAIN, 0, 1))
        self.assertEqual(bob.out(MAIN, 0, 0), [])
        self.refused(NoThing, bob, lambda: bob.out(MAIN, 0, 3))


class Writes(Refusing):
    def test_by_the_fewest_signs(self):
        chance = random.Random(39)
        for turn in range(60):
            ann = Hand(ROLL, "ann")
            for step in range(4):
                before = text_of(ann)
                text = "".join(chance.choices("abc.", k=chance.choice((0, 1, 3, 12, 13, 25))))
                deeds = ann.write(MAIN, text)
                self.assertEqual(text_of(ann), text)
                signs = sum([len(deed[4][3]) if deed[4][0] == "put" else len(deed[4][2]) for deed in deeds])
                self.assertEqual(signs, cost_of(least_change(list(before), list(text))))
                self.assertTrue(all(Judge(Folk(ROLL, ann.deeds())).good(deed[:2]) for deed in deeds))

    def test_the_same_text_makes_no_deed(self):
        ann = ann_with("ab")
        self.assertEqual(ann.write(MAIN, "ab"), [])
        self.assertEqual(ann.counts(), (1, 0))

    def test_what_is_kept_stays(self):
        ann = ann_with("hello")
        ann.write(MAIN, "help")
        self.assertEqual([sign[0] for sign in ann.view()[0][2]][:3], [("ann", 1, 0), ("ann", 1, 1), ("ann", 1, 2)])

    def test_pictures_and_references_are_written_over(self):
        ann = Hand(ROLL, "ann")
        ann.does(("put", MAIN, None, (("picture", "sun"), "a", ("refer", MAIN))))
        ann.write(MAIN, "ab")
        self.assertEqual(text_of(ann), "ab")
        self.assertEqual(ann.view()[0][2][0][0], ("ann", 1, 1))

    def test_refusals(self):
        ann, bob = two_hands("ab", "read")
        self.refused(NoLeave, bob, lambda: bob.write(MAIN, "a"))
        self.refused(NoLeave, bob, lambda: bob.write(MAIN, "abc" * 9))
        self.assertEqual(bob.write(MAIN, "ab"), [])
        self.refused(NoThing, bob, lambda: bob.write(("ann", 9), "ab"))
        self.refused(NoThing, ann, lambda: ann.write(("ann", 1), ""))


class MarksAndNotes(Refusing):
    def test_marks(self):
        ann = ann_with("abcd")
        self.assertEqual(ann.mark(MAIN, 1, 2, "b", "on"), ("ann", 2, (1, 0), None, (
            "mark", MAIN, (("ann", 1, 1), "ahead"), (("ann", 1, 2), "behind"), "b", "on")))
        self.assertEqual([sign[2] for sign in ann.view()[0][2]], [[], [("b", "on")], [("b", "on")], []])
        ann.mark(MAIN, 2, 2, "b", None)
        self.assertEqual([sign[2] for sign in ann.view()[0][2]], [[], [("b", "on")], [], []])

    def test_notes(self):
        ann = ann_with("abcd")
        self.assertEqual(ann.note(MAIN, 0, 3, "why"), ("ann", 2, (1, 0), None, (
            "note", MAIN, (("ann", 1, 0), "ahead"), (("ann", 1, 3), "behind"), "why")))
        self.assertEqual(ann.view()[0][3], [(("ann", 2), "why", ("ann", 1, 0))])

    def test_stretches_that_are_not_there(self):
        ann = ann_with("abc")
        for first, last in ((1, 0), (0, 3), (3, 3), (-1, 0), (-2, -1), (0, -1), (4, 4)):
            self.refused(NoThing, ann, lambda: ann.mark(MAIN, first, last, "b", "on"))
            self.refused(NoThing, ann, lambda: ann.note(MAIN, first, last, "b"))
        self.refused(NoThing, ann, lambda: ann.mark(("ann", 1), 0, 0, "b", "on"))
        empty = Hand(ROLL, "ann")
        self.refused(NoThing, empty, lambda: empty.note(MAIN, 0, 0, "b"))

    def test_words_that_are_none(self):
        ann = ann_with("abc")
        for word in ("", "A", "ninewords", "a b", "!"):
            self.refused(NoDeed, ann, lambda: ann.mark(MAIN, 0, 0, word, "on"))
            self.refused(NoDeed, ann, lambda: ann.mark(MAIN, 0, 0, "b", word))
            self.refused(NoDeed, ann, lambda: ann.note(MAIN, 0, 0, word))
            self.refused(NoDeed, ann, lambda: ann.note(MAIN, 9, 0, word))
            self.refused(NoDeed, ann, lambda: ann.mark(MAIN, 9, 0, word, "on"))
            self.refused(NoDeed, ann, lambda: ann.mark(MAIN, 9, 0, "b", word))

    def test_no_leave(self):
        ann, bob = two_hands("ab", "read")
        self.refused(NoLeave, bob, lambda: bob.mark(MAIN, 0, 0, "b", "on"))
        self.refused(NoLeave, bob, lambda: bob.note(MAIN, 0, 0, "b"))
        ann.does(("leave", MAIN, "bob", "note", True))
        share(ann, bob)
        self.assertEqual(bob.note(MAIN, 0, 0, "b")[1], 1)
        self.refused(NoLeave, bob, lambda: bob.mark(MAIN, 0, 0, "b", "on"))


class Doings(Refusing):
    def test_each_kind(self):
        ann = ann_with("ab")
        one, two = ("ann", 1, 0), ("ann", 1, 1)
        for n, what in enumerate((("nothing",), ("part", MAIN), ("part", ("ann", 3)), ("move", ("ann", 4), MAIN),
                                  ("cut", ("ann", 4)), ("put", MAIN, one, ("x", ("refer", ("ann", 3)))), ("out", MAIN, (two,)),
                                  ("mark", MAIN, (one, "ahead"), (one, "behind"), "b", None),
                                  ("note", MAIN, (one, "ahead"), (one, "behind"), "b"), ("line", MAIN, "row", None),
                                  ("line", MAIN, "column", None), ("cell", MAIN, ("ann", 11), ("ann", 12), "w"),
                                  ("strike", MAIN, ("ann", 11)), ("leave", ("ann", 3), "bob", "read", True), ("back", 13),
                                  ("again", 13), ("bring", "try"), ("drop", "odd")), start=2):
            self.assertEqual(ann.does(what), ("ann", n, (n - 1, 0), None, what))

    def test_what_is_none(self):
        ann = ann_with("ab")
        for what in (None, (), "nothing", ["nothing"], ("nothings",), ("part",), ("part", ("cyd", 1)), ("cut", MAIN), ANY,
                     ("put", MAIN, None, ()), ("put", MAIN, None, ("A",)), ("back", 2), ("again", 2), ("back", 9), ("back", 0),
                     ("back", True), ("bring", "A"), ("pour", (0,)), ("leave", MAIN, "cyd", "read", True), ("nothing", None)):
            self.refused(NoDeed, ann, lambda: ann.does(what))
        self.assertEqual(ann.does(("back", 1))[4], ("back", 1))

    def test_parts_without_an_entry_in_its_view(self):
        ann, bob = two_hands("ab", "read", "write")
        ann.does(("part", MAIN))
        ann.does(("part", ("ann", 4)))
        ann.does(("leave", ("ann", 4), "bob", "read", False))
        share(ann, bob)
        for what in (("part", ("ann", 5)), ("put", ("ann", 5), None, ("a",)), ("put", MAIN, None, (("refer", ("ann", 5)),)),
                     ("move", ("ann", 4), ("ann", 5)), ("move", ("ann", 5), MAIN), ("cut", ("ann", 9)),
                     ("line", ("bob", 1), "row", None), ("leave", ("ann", 5), "bob", "read", True)):
            self.refused(NoThing, bob, lambda: bob.does(what))
        self.assertEqual(bob.does(("put", ("ann", 4), None, (("refer", ("ann", 4)), ("refer", MAIN))))[1], 1)

    def test_what_would_not_be_good(self):
        ann, bob = two_hands("ab", "read")
        for what in (("part", MAIN), ("put", MAIN, None, ("a",)), ("bring", "try"), ("leave", MAIN, "bob", "write", True),
                     ("line", MAIN, "row", None), ("pour", (1, 0))):
            self.refused(NoLeave, bob, lambda: bob.does(what))
        for what in (("put", MAIN, ("ann", 9, 0), ("a",)), ("out", MAIN, (("ann", 1, 2),)), ("strike", MAIN, ("ann", 1)),
                     ("pour", (0, 0)), ("pour", (9, 9))):
            self.refused(NoLeave, ann, lambda: ann.does(what))
        self.assertEqual(bob.does(("nothing",))[1], 1)
        self.refused(NoLeave, bob, lambda: bob.does(("back", 1)))
        self.assertEqual(bob.does(("drop", "try"))[1], 2)
        self.refused(NoLeave, bob, lambda: bob.does(("drop", "try")))


class Branches(Refusing):
    def test_deeds_on_a_branch(self):
        ann = ann_with("ab")
        self.assertIsNone(ann.works(TRY))
        deed = ann.put(MAIN, 1, "x")[0]
        self.assertEqual(deed[3], TRY)
        self.assertEqual(text_of(ann), "axb")
        ann.works(None)
        self.assertEqual(text_of(ann), "ab")
        ann.put(MAIN, 1, "y")
        self.assertEqual(text_of(ann), "ayb")
        ann.works(TRY)
        self.assertEqual(text_of(ann), "ayxb")
        self.assertEqual(ann.does(("nothing",))[3], TRY)

    def test_brought_in_and_dropped(self):
        for word, text in (("bring", "axb"), ("drop", "ab")):
            ann = ann_with("ab")
            ann.works(TRY)
            ann.put(MAIN, 1, "x")
            self.refused(NoLeave, ann, lambda: ann.does((word, "try")))
            ann.works(None)
            ann.does((word, "try"))
            self.assertEqual(text_of(ann), text)
            ann.works(TRY)
            self.assertEqual(text_of(ann), "axb")
            self.refused(NoLeave, ann, lambda: ann.put(MAIN, 1, "z"))
            self.refused(NoLeave, ann, lambda: ann.write(MAIN, "z"))
            self.refused(NoLeave, ann, lambda: ann.does(("nothing",)))

    def test_on_another_hand_s_branch(self):
        ann, bob = two_hands("ab", "read", "write")
        ann.works(("bob", "odd"))
        ann.put(MAIN, 2, "c")
        bob.works(("bob", "odd"))
        share(ann, bob)
        self.assertEqual(text_of(bob), "abc")
        bob.put(MAIN, 3, "d")
        bob.works(None)
        bob.does(("bring", "odd"))
        self.assertEqual(text_of(bob), "abcd")

    def test_what_is_no_branch(self):
        ann = ann_with("ab")
        ann.works(TRY)
        for branch in ((), ("ann",), ("cyd", "try"), ("ann", "Try"), "try", 0, False, ["ann", "try"], ("ann", "try", "try"), ANY):
            with self.assertRaises(NoDeed):
                ann.works(branch)
        self.assertEqual(ann.does(("nothing",))[3], TRY)

    def test_the_view_is_of_what_counts_for_the_branch(self):
        ann, bob = two_hands("ab", "read", "write")
        bob.works(TRY)
        bob.mark(MAIN, 0, 0, "b", "on")
        bob.does(("part", MAIN))
        folk = Folk(ROLL, bob.deeds())
        self.assertEqual(bob.view(), document(facts_of(folk, TRY), ROLL, "bob"))
        self.assertNotEqual(bob.view(), document(facts_of(folk), ROLL, "bob"))


class Together(Refusing):
    def test_what_a_hand_does_comes_out_as_it_says(self):
        """[40]: by its own reading, whatever the others did meanwhile."""
        for turn in range(25):
            chance = random.Random(turn)
            ann, bob = two_hands("hello", "read", "write")
            if turn % 3 == 0:
                bob.works(chance.choice([("bob", "odd"), TRY]))
            for step in range(20):
                hand = chance.choice((ann, bob))
                before = text_of(hand)
                place = chance.randint(0, len(before))
                text = "".join(chance.choices("abc ,.", k=chance.choice((0, 1, 2, 14))))
                many = chance.randint(0, len(before) - place)
                did = chance.choice(("put", "out", "write"))
                if did == "put":
                    hand.put(MAIN, place, text)
                    self.assertEqual(text_of(hand), before[:place] + text + before[place:])
                elif did == "out":
                    hand.out(MAIN, place, many)
                    self.assertEqual(text_of(hand), before[:place] + before[place + many:])
                else:
                    hand.write(MAIN, before[:place] + text + before[place + many:])
                    self.assertEqual(text_of(hand), before[:place] + text + before[place + many:])
                if chance.random() < 0.4:
                    share(ann, bob)
            share(ann, bob)
            self.assertEqual(ann.deeds(), bob.deeds())
            if turn % 3:
                self.assertEqual(text_of(ann), text_of(bob))

    def test_as_its_store_s(self):
        ann, bob = two_hands("ab", "read")
        self.assertEqual(bob.deeds(), ann.deeds())
        self.assertEqual(ann.lacking((1, 0)), ann.deeds()[1:])
        self.assertEqual(bob.hear(ann.deeds()[0]), [])
        with self.assertRaises(NoDeed):
            bob.hear(None)
        with self.assertRaises(Unlike):
            bob.hear(("ann", 1, (0, 0), None, ("nothing",)))
        with self.assertRaises(NoThing):
            bob.keepsake_now(("ann", 1))

    def test_pours_and_a_hand_that_begins_with_a_keepsake(self):
        ann, bob = two_hands("ab", "read", "write")
        self.assertIsNone(ann.greatest())
        for turn in range(2):
            ann.does(("nothing",))
            bob.does(("nothing",))
            share(ann, bob)
        counts = ann.greatest()
        self.assertEqual(counts, (3, 0))
        pour = ann.does(("pour", counts))
        kept = ann.keepsake_now(pour[:2])
        handed = copy.deepcopy(kept)
        anew = Hand(ROLL, "bob", kept)
        for deed in ann.lacking(kept["counts"]):
            anew.hear(deed)
        share(ann, bob)
        self.assertEqual(anew.view(), bob.view())
        self.assertEqual(anew.counts(), bob.counts())
        self.assertEqual(anew.put(MAIN, 1, "x"), bob.put(MAIN, 1, "x"))
        self.assertEqual(anew.view(), bob.view())
        self.assertEqual(kept, handed)
        with self.assertRaises(Poured):
            anew.lacking((0, 0))
        with self.assertRaises(NoThing):
            anew.keepsake_now(pour[:2])

    def test_what_is_told_is_the_asker_s_own(self):
        ann = ann_with("ab")
        for asked in (ann.view, ann.deeds, lambda: ann.lacking((0, 0))):
            kept = copy.deepcopy(asked())
            asked().clear()
            self.assertEqual(asked(), kept)
        ann.view()[0][2].clear()
        self.assertEqual(text_of(ann), "ab")
        roll = list(ROLL)
        hand = Hand(roll, "bob")
        roll.clear()
        self.assertEqual(hand.does(("nothing",))[:3], ("bob", 1, (0, 0)))


if __name__ == "__main__":
    unittest.main()
