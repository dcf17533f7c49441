"""Birth chains and leaves: [2], [14], [15]."""

import copy
import itertools
import random
import unittest

from pagefolk.leaves import birth_chain, has_leave

ROLL = ["ann", "bob", "cyd"]
MAIN = ("", 0)
ONE = ("ann", 1)
TWO = ("bob", 4)
THREE = ("ann", 9)
ASIDE = ("cyd", 2)
BIRTHS = [(THREE, TWO), (ONE, MAIN), (ASIDE, ONE), (TWO, ONE)]
WORDS = ("read", "note", "write", "give")


def first_told(births, leaves, hand, part, to):
    about = [leave for leave in leaves if leave[:3] == (part, hand, to)]
    if about:
        return max(about, key=lambda leave: leave[4])[3]
    return part != MAIN and first_told(births, leaves, hand, dict(births)[part], to)


def leave_by_words(roll, births, leaves, hand, part, to):
    """[15], word by word."""
    words = ("note", "write") if to == "note" else (to,)
    return hand == roll[0] or any(first_told(births, leaves, hand, part, word) for word in words)


class Chains(unittest.TestCase):
    def test_the_main_part_alone(self):
        self.assertEqual(birth_chain([], MAIN), [MAIN])
        self.assertEqual(birth_chain(BIRTHS, MAIN), [MAIN])

    def test_chains_of_parts_in_whatever_order(self):
        for births in itertools.permutations(BIRTHS):
            self.assertEqual(birth_chain(list(births), ONE), [ONE, MAIN])
            self.assertEqual(birth_chain(list(births), ASIDE), [ASIDE, ONE, MAIN])
            self.assertEqual(birth_chain(list(births), THREE), [THREE, TWO, ONE, MAIN])

    def test_a_long_chain(self):
        births = [(("ann", n), ("ann", n - 1) if n > 1 else MAIN) for n in range(1, 2001)]
        chain = birth_chain(births, ("ann", 2000))
        self.assertEqual(chain, [("ann", n) for n in range(2000, 0, -1)] + [MAIN])

    def test_births_that_no_set_brings(self):
        """They may come round, or lack a part: what is asked is answered still."""
        turned = [(ONE, TWO), (TWO, ONE)]
        self.assertEqual(birth_chain(turned, ONE)[:2], [ONE, TWO])
        self.assertIs(has_leave(ROLL, turned, [(TWO, "bob", "read", True, (1, 0))], "bob", ONE, "read"), True)
        self.assertIs(has_leave(ROLL, turned, [], "bob", ONE, "read"), False)
        self.assertEqual(birth_chain([], ONE), [ONE])

    def test_what_is_handed_in_stays(self):
        births = list(BIRTHS)
        birth_chain(births, THREE).append("x")
        self.assertEqual(births, BIRTHS)
        self.assertEqual(birth_chain(births, THREE), [THREE, TWO, ONE, MAIN])


class Leaves(unittest.TestCase):
    def asked(self, leaves, hand, part, to, births=BIRTHS):
        answer = has_leave(ROLL, births, leaves, hand, part, to)
        self.assertIsInstance(answer, bool)
        return answer

    def test_the_founder_always_has(self):
        against = [(part, "ann", to, False, (5, 0)) for part in (MAIN, ONE, TWO) for to in WORDS]
        for to in WORDS:
            for part in (MAIN, ONE, TWO, THREE, ASIDE):
                self.assertIs(self.asked([], "ann", part, to), True)
                self.assertIs(self.asked(against, "ann", part, to), True)
        self.assertIs(has_leave(["bob", "ann"], BIRTHS, [], "bob", ONE, "give"), True)
        self.assertIs(has_leave(["bob", "ann"], BIRTHS, [], "ann", ONE, "give"), False)

    def test_no_leave_told(self):
        for to in WORDS:
            for part in (MAIN, ONE, THREE):
                self.assertIs(self.asked([], "bob", part, to), False)
                self.assertIs(self.asked([], "bob", part, to, births=[(ONE, MAIN), (THREE, MAIN)]), False)

    def test_one_leave_for_one_hand_and_word(self):
        for to in WORDS:
            leaves = [(ONE, "bob", to, True, (3, 0))]
            for other in WORDS:
                wanted = other == to or (to == "write" and other == "note")
                self.assertIs(self.asked(leaves, "bob", ONE, other), wanted, (to, other))
                self.assertIs(self.asked(leaves, "cyd", ONE, other), False)
                self.assertIs(self.asked(leaves, "bob", MAIN, other), False)

    def test_along_the_birth_chain(self):
        leaves = [(ONE, "bob", "read", True, (3, 0))]
        for part, wanted in ((MAIN, False), (ONE, True), (TWO, True), (THREE, True), (ASIDE, True)):
            self.assertIs(self.asked(leaves, "bob", part, "read"), wanted)
        below = leaves + [(TWO, "bob", "read", False, (2, 0))]
        for part, wanted in ((ONE, True), (TWO, False), (THREE, False), (ASIDE, True)):
            self.assertIs(self.asked(below, "bob", part, "read"), wanted)
        main = [(MAIN, "bob", "read", True, (9, 0)), (ONE, "bob", "read", False, (1, 0))]
        for part, wanted in ((MAIN, True), (ONE, False), (THREE, False)):
            self.assertIs(self.asked(main, "bob", part, "read"), wanted)

    def test_the_greatest_key_of_the_first_part_tells(self):
        leaves = [(ONE, "bob", "write", True, (3, 1)), (ONE, "bob", "write", False, (3, 2)),
                  (ONE, "bob", "write", True, (2, 9)), (MAIN, "bob", "write", True, (9, 0))]
        for some in itertools.permutations(leaves):
            self.assertIs(self.asked(list(some), "bob", TWO, "write"), False)
            self.assertIs(self.asked(list(some) + [(ONE, "bob", "write", True, (10, 0))], "bob", TWO, "write"), True)
            self.assertIs(self.asked(list(some), "bob", MAIN, "write"), True)

    def test_write_goes_for_note_by_its_own_chain(self):
        leaves = [(MAIN, "bob", "write", True, (2, 0)), (TWO, "bob", "note", False, (3, 0))]
        self.assertIs(self.asked(leaves, "bob", TWO, "note"), True)
        self.assertIs(self.asked(leaves + [(TWO, "bob", "write", False, (4, 0))], "bob", TWO, "note"), False)
        self.assertIs(self.asked([(MAIN, "bob", "note", True, (2, 0))], "bob", TWO, "write"), False)
        both = [(MAIN, "bob", "note", True, (2, 0)), (MAIN, "bob", "write", False, (3, 0))]
        self.assertIs(self.asked(both, "bob", TWO, "note"), True)

    def test_held_against_the_words(self):
        chance = random.Random(15)
        for turn in range(2000):
            leaves = [(chance.choice((MAIN, ONE, TWO, THREE, ASIDE)), chance.choice(ROLL), chance.choice(WORDS),
                       chance.random() < 0.5, (n, 0)) for n in range(chance.randint(0, 12))]
            chance.shuffle(leaves)
            asked = (chance.choice(ROLL), chance.choice((MAIN, ONE, TWO, THREE, ASIDE)), chance.choice(WORDS))
            births = chance.sample(BIRTHS, len(BIRTHS))
            self.assertIs(self.asked(leaves, *asked, births=births), leave_by_words(ROLL, births, leaves, *asked))

    def test_what_is_handed_in_stays(self):
        handed = [ROLL, BIRTHS, [(ONE, "bob", "read", True, (3, 0)), (MAIN, "bob", "read", True, (1, 0))]]
        kept = copy.deepcopy(handed)
        has_leave(handed[0], handed[1], handed[2], "bob", THREE, "read")
        self.assertEqual(handed, kept)


if __name__ == "__main__":
    unittest.main()
