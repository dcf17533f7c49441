"""Whole sets, their pasts, counts, heights and keys: [2], [5]."""

import itertools
import random
import unittest

from pagefolk.deeds import is_deed, name_of
from pagefolk.errors import FolkError, NoSet
from pagefolk.sets import Folk

ROLL = ["ann", "bob", "cyd"]
SIX = ["fay", "eve", "dan", "cyd", "bob", "ann"]


def a_deed(hand, number, heard, what=("nothing",), branch=None):
    return (hand, number, heard, branch, what)


ANN1 = a_deed("ann", 1, (0, 0, 0), ("part", ("", 0)))
BOB1 = a_deed("bob", 1, (0, 0, 0))
ANN2 = a_deed("ann", 2, (1, 0, 0), ("put", ("ann", 1), None, ("h", "i")))
BOB2 = a_deed("bob", 2, (2, 1, 0), ("leave", ("", 0), "cyd", "read", True))
CYD1 = a_deed("cyd", 1, (1, 0, 0), ("nothing",), ("ann", "try"))
ANN3 = a_deed("ann", 3, (2, 2, 1))
CYD2 = a_deed("cyd", 2, (1, 1, 1))
# By their keys: heights 1 1 2 2 3 3 4, hands 0 1 0 2 1 2 0.
SOME = [ANN1, BOB1, ANN2, CYD1, BOB2, CYD2, ANN3]
KEYS = [(1, 0), (1, 1), (2, 0), (2, 2), (3, 1), (3, 2), (4, 0)]


def past_by_words(deed, roll, deeds):
    """[5], word by word: of each hand the first so many."""
    return [other for other in deeds if other[1] <= deed[2][roll.index(other[0])]]


def is_whole(roll, deeds):
    """[5], word by word, of a list of deeds without two alike."""
    names = [name_of(deed) for deed in deeds]
    if len(set(names)) != len(names):
        return False
    for deed in deeds:
        for place, hand in enumerate(roll):
            if any((hand, number) not in names for number in range(1, deed[2][place] + 1)):
                return False
        for other in past_by_words(deed, roll, deeds):
            if any(mine < its for mine, its in zip(deed[2], other[2])):
                return False
            if deed[2][roll.index(other[0])] < other[1]:
                return False
    return True


def height_by_words(deed, roll, deeds):
    return 1 + max([height_by_words(other, roll, deeds) for other in past_by_words(deed, roll, deeds)], default=0)


def heard_along(chance, roll, many):
    """A whole set, as hands that hear one another would make it."""
    heard = [[0] * len(roll) for hand in roll]
    made = {}
    for step in range(many):
        seat = chance.randrange(len(roll))
        other = chance.randrange(len(roll))
        if chance.random() < 0.6 and heard[other][other] > 0:
            number = chance.randint(1, heard[other][other])
            reached = list(made[(roll[other], number)][2])
            reached[other] = number
            heard[seat] = [max(pair) for pair in zip(heard[seat], reached)]
        number = heard[seat][seat] + 1
        made[(roll[seat], number)] = a_deed(roll[seat], number, tuple(heard[seat]))
        heard[seat][seat] = number
    return list(made.values())


def any_deeds(chance, roll, many):
    """Deeds in a row for each hand that had heard anything, a whole set at times."""
    deeds = []
    for seat, hand in enumerate(roll):
        heard = [0] * len(roll)
        for number in range(1, chance.randint(0, many) + 1):
            heard = [count + chance.choice([0, 0, 0, 1, 1, -1]) for count in heard]
            heard = [max(count, 0) for count in heard]
            heard[seat] = number - 1
            deeds.append(a_deed(hand, number, tuple(heard)))
    return deeds


class WholeSets(unittest.TestCase):
    def test_what_is_told_of_a_set(self):
        folk = Folk(ROLL, SOME)
        self.assertEqual(folk.roll(), ROLL)
        self.assertEqual(folk.deeds(), SOME)
        self.assertEqual(folk.names(), [name_of(deed) for deed in SOME])
        self.assertEqual(folk.counts(), (3, 2, 2))
        self.assertIsInstance(folk.counts(), tuple)
        for deed, key in zip(SOME, KEYS):
            self.assertEqual(folk.deed(name_of(deed)), deed)
            self.assertEqual(folk.key(name_of(deed)), key)
            self.assertIsInstance(folk.key(name_of(deed)), tuple)
            self.assertTrue(is_deed(ROLL, deed))

    def test_has(self):
        folk = Folk(ROLL, SOME)
        for deed in SOME:
            self.assertIs(folk.has(name_of(deed)), True)
        for name in (("ann", 4), ("ann", 0), ("ann", -1), ("bob", 3), ("cyd", 3), ("nobody", 1), ("z", 10 ** 30)):
            self.assertIs(folk.has(name), False, name)

    def test_pasts(self):
        folk = Folk(ROLL, SOME)
        self.assertEqual(folk.past(("ann", 1)), [])
        self.assertEqual(folk.past(("bob", 1)), [])
        self.assertEqual(folk.past(("ann", 2)), [("ann", 1)])
        self.assertEqual(folk.past(("cyd", 1)), [("ann", 1)])
        self.assertEqual(folk.past(("bob", 2)), [("ann", 1), ("bob", 1), ("ann", 2)])
        self.assertEqual(folk.past(("cyd", 2)), [("ann", 1), ("bob", 1), ("cyd", 1)])
        self.assertEqual(folk.past(("ann", 3)), [("ann", 1), ("bob", 1), ("ann", 2), ("cyd", 1), ("bob", 2)])

    def test_deeds_in_any_order(self):
        for order in itertools.permutations(SOME):
            folk = Folk(ROLL, list(order))
            self.assertEqual(folk.deeds(), SOME)
            self.assertEqual([folk.key(name) for name in folk.names()], KEYS)

    def test_deeds_alike_twice_are_one(self):
        folk = Folk(ROLL, SOME + SOME[::-1] + [tuple(list(ANN2))])
        self.assertEqual(folk.deeds(), SOME)
        self.assertEqual(folk.counts(), (3, 2, 2))

    def test_the_hands_are_ordered_by_the_roll(self):
        deeds = [("ann", 1, (0, 0), None, ("nothing",)), ("bob", 1, (0, 0), None, ("nothing",))]
        self.assertEqual(Folk(["ann", "bob"], deeds).names(), [("ann", 1), ("bob", 1)])
        self.assertEqual(Folk(["bob", "ann"], deeds).names(), [("bob", 1), ("ann", 1)])
        self.assertEqual(Folk(["bob", "ann"], deeds).key(("ann", 1)), (1, 1))

    def test_a_height_is_not_how_many_were_heard(self):
        apart = [a_deed("ann", 1, (0, 0, 0)), a_deed("bob", 1, (0, 0, 0)), a_deed("cyd", 1, (1, 1, 0))]
        self.assertEqual(Folk(ROLL, apart).key(("cyd", 1)), (2, 2))

    def test_none_at_all(self):
        folk = Folk(ROLL, [])
        self.assertEqual(folk.deeds(), [])
        self.assertEqual(folk.names(), [])
        self.assertEqual(folk.counts(), (0, 0, 0))
        self.assertIs(folk.has(("ann", 1)), False)
        self.assertEqual(folk.within((0, 0, 0)).deeds(), [])

    def test_within(self):
        folk = Folk(ROLL, SOME)
        inner = folk.within((2, 2, 0))
        self.assertIsInstance(inner, Folk)
        self.assertEqual(inner.roll(), ROLL)
        self.assertEqual(inner.deeds(), [ANN1, BOB1, ANN2, BOB2])
        self.assertEqual(inner.counts(), (2, 2, 0))
        self.assertIs(inner.has(("cyd", 1)), False)
        self.assertEqual(inner.key(("bob", 2)), folk.key(("bob", 2)))
        self.assertEqual(folk.within((0, 0, 0)).names(), [])
        self.assertEqual(folk.within((3, 2, 2)).deeds(), SOME)
        self.assertEqual(folk.deeds(), SOME)
        self.assertEqual(inner.within((1, 0, 0)).deeds(), [ANN1])

    def test_sets_as_hands_make_them(self):
        chance = random.Random(5)
        for times in range(60):
            roll = SIX[:chance.randint(2, 6)]
            deeds = heard_along(chance, roll, chance.randint(1, 14))
            self.assertTrue(is_whole(roll, deeds))
            chance.shuffle(deeds)
            folk = Folk(roll, deeds)
            keys = {}
            for deed in deeds:
                keys[name_of(deed)] = (height_by_words(deed, roll, deeds), roll.index(deed[0]))
            self.assertEqual(folk.names(), sorted(keys, key=lambda name: keys[name]))
            self.assertEqual(len(set(keys.values())), len(deeds))
            for deed in deeds:
                name = name_of(deed)
                past = sorted([name_of(other) for other in past_by_words(deed, roll, deeds)], key=lambda one: keys[one])
                self.assertEqual(folk.key(name), keys[name])
                self.assertEqual(folk.past(name), past)
                self.assertTrue(all(folk.key(other) < folk.key(name) for other in past))
                self.assertEqual(folk.within(deed[2]).names(), past)
                self.assertEqual(folk.within(deed[2]).counts(), deed[2])

    def test_a_set_of_four_hundred(self):
        deeds = heard_along(random.Random(7), SIX, 400)
        folk = Folk(SIX, deeds[::-1])
        self.assertEqual(sum(folk.counts()), 400)
        self.assertEqual(len(folk.deeds()), 400)


class NoWholeSets(unittest.TestCase):
    def is_none(self, deeds, roll=ROLL):
        for deed in deeds:
            self.assertTrue(is_deed(roll, deed), deed)
        for order in (deeds, deeds[::-1]):
            handed_in = list(order)
            with self.assertRaises(NoSet) as caught:
                Folk(roll, handed_in)
            self.assertIsInstance(caught.exception, FolkError)
            self.assertEqual(handed_in, order)

    def test_two_unlike_deeds_of_one_name(self):
        self.is_none([ANN1, a_deed("ann", 1, (0, 0, 0), ("nothing",))])
        self.is_none([ANN1, ANN1, ANN1[:3] + (("ann", "try"),) + ANN1[4:]])
        self.is_none([BOB1, CYD1, ANN1, a_deed("cyd", 1, (1, 1, 0), ("nothing",), ("ann", "try"))])
        self.is_none([BOB2[:4] + (("leave", ("", 0), "cyd", "read", False),)] + SOME)

    def test_a_past_that_is_not_there(self):
        for left_out in (ANN1, BOB1, ANN2, CYD1, BOB2):
            self.is_none([deed for deed in SOME if deed != left_out])
        self.is_none([ANN2])
        self.is_none([a_deed("ann", 1, (0, 1, 0))])
        self.is_none([a_deed("ann", 1, (0, 0, 10 ** 6)), a_deed("cyd", 1, (0, 0, 0))])
        self.is_none([a_deed("ann", 1, (0, 0, 0)), a_deed("ann", 3, (2, 0, 0))])

    def test_a_past_with_a_gap_in_it(self):
        self.is_none([BOB1, a_deed("bob", 3, (0, 2, 0)), a_deed("ann", 1, (0, 3, 0))])

    def test_less_heard_than_a_deed_of_its_past_had(self):
        bob_heard_ann = a_deed("bob", 1, (1, 0, 0))
        self.is_none([ANN1, bob_heard_ann, a_deed("cyd", 1, (0, 1, 0))])
        Folk(ROLL, [ANN1, bob_heard_ann, a_deed("cyd", 1, (1, 1, 0))])

    def test_less_heard_than_its_own_deed_ahead_had(self):
        self.is_none([BOB1, a_deed("ann", 1, (0, 1, 0)), a_deed("ann", 2, (1, 0, 0))])
        Folk(ROLL, [BOB1, a_deed("ann", 1, (0, 1, 0)), a_deed("ann", 2, (1, 1, 0))])

    def test_less_heard_than_an_earlier_deed_of_its_past_had(self):
        # bob's second had heard less than his first; cyd had heard as much as the second.
        bob = [a_deed("bob", 1, (1, 0, 0)), a_deed("bob", 2, (0, 1, 0))]
        self.is_none([ANN1] + bob)
        self.is_none([ANN1] + bob + [a_deed("cyd", 1, (0, 2, 0))])

    def test_deeds_that_had_heard_one_another(self):
        self.is_none([a_deed("ann", 1, (0, 1, 0)), a_deed("bob", 1, (1, 0, 0))])
        self.is_none([a_deed("ann", 1, (0, 1, 0)), a_deed("bob", 1, (0, 0, 1)), a_deed("cyd", 1, (1, 0, 0))])
        self.is_none([a_deed("ann", 1, (0, 1, 1)), a_deed("bob", 1, (1, 0, 1)), a_deed("cyd", 1, (1, 1, 0))])

    def test_lists_of_any_deeds(self):
        chance = random.Random(11)
        told = {True: 0, False: 0}
        for times in range(3000):
            roll = SIX[:chance.randint(2, 3)]
            deeds = any_deeds(chance, roll, 3)
            if deeds and chance.random() < 0.2:
                deeds.pop(chance.randrange(len(deeds)))
            whole = is_whole(roll, deeds)
            told[whole] += 1
            if whole:
                self.assertEqual(sorted(Folk(roll, deeds).deeds()), sorted(deeds))
            else:
                with self.assertRaises(NoSet):
                    Folk(roll, deeds)
        self.assertGreater(told[True], 300)
        self.assertGreater(told[False], 300)


class NothingHangsTogether(unittest.TestCase):
    def test_what_was_handed_in_is_not_changed(self):
        roll = list(ROLL)
        deeds = SOME[::-1] + SOME
        folk = Folk(roll, deeds)
        folk.within((1, 1, 0))
        self.assertEqual(roll, ROLL)
        self.assertEqual(deeds, SOME[::-1] + SOME)

    def test_what_was_handed_in_and_is_changed_changes_nothing(self):
        roll = list(ROLL)
        deeds = list(SOME)
        folk = Folk(roll, deeds)
        inner = folk.within((2, 1, 0))
        roll.reverse()
        roll.append("dan")
        deeds.clear()
        self.tells_all_of_some(folk)
        self.assertEqual(inner.deeds(), [ANN1, BOB1, ANN2])
        self.assertEqual(inner.roll(), ROLL)

    def test_what_was_told_and_is_changed_changes_nothing(self):
        folk = Folk(ROLL, SOME)
        inner = folk.within((3, 2, 2))
        for told in (folk.roll(), folk.deeds(), folk.names(), folk.past(("ann", 3)), inner.roll(), inner.names()):
            told.reverse()
            told.pop()
        self.tells_all_of_some(folk)
        self.tells_all_of_some(inner)
        for ask in (folk.roll, folk.deeds, folk.names):
            self.assertIsNot(ask(), ask())

    def test_what_was_told_stays_as_it_was(self):
        folk = Folk(ROLL, SOME)
        told = (folk.roll(), folk.deeds(), folk.names(), folk.past(("bob", 2)))
        kept = [list(one) for one in told]
        folk.within((1, 0, 0))
        folk.past(("ann", 3))
        self.assertEqual(list(told), kept)

    def tells_all_of_some(self, folk):
        self.assertEqual(folk.roll(), ROLL)
        self.assertEqual(folk.deeds(), SOME)
        self.assertEqual(folk.names(), [name_of(deed) for deed in SOME])
        self.assertEqual(folk.counts(), (3, 2, 2))
        self.assertEqual([folk.key(name_of(deed)) for deed in SOME], KEYS)
        self.assertEqual(folk.past(("bob", 2)), [("ann", 1), ("bob", 1), ("ann", 2)])
        self.assertEqual(folk.within((1, 1, 1)).deeds(), [ANN1, BOB1, CYD1])


if __name__ == "__main__":
    unittest.main()
