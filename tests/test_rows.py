"""Rows of places, their order and their lines: [2], [9], [10]."""

import copy
import random
import unittest

from pagefolk.rows import is_ahead, line_of, ordered

# None: c (9) then a (1) then its own; behind a: e (7), b (2) with d (3) behind it.
SOME = [("a", None, (1, 0)), ("b", "a", (2, 0)), ("c", None, (9, 1)), ("d", "b", (3, 2)), ("e", "a", (7, 0))]


def order_by_words(places, behind=None):
    """[9], word by word."""
    row = []
    for place in sorted([place for place in places if place[1] == behind], key=lambda place: place[2], reverse=True):
        row.append(place[0])
        row.extend(order_by_words(places, place[0]))
    return row


def any_places(chance, many, rising):
    """Places behind one another; keys rise along the lines, or are any unlike ones."""
    names = chance.sample(range(1000), many)
    keys = [(n // 3, n % 3, 0)[:chance.choice((2, 3))] for n in range(many)]
    if not rising:
        chance.shuffle(keys)
    places = []
    for n, name in enumerate(names):
        behind = None if n == 0 or chance.random() < 0.2 else chance.choice(names[max(0, n - 4):n])
        places.append((("x", name), None if behind is None else ("x", behind), keys[n]))
    chance.shuffle(places)
    return places


class Ordered(unittest.TestCase):
    def test_no_places_and_one(self):
        self.assertEqual(ordered([]), [])
        self.assertEqual(ordered([("a", None, (1, 0))]), ["a"])

    def test_the_greatest_key_first_each_with_its_own(self):
        self.assertEqual(ordered(SOME), ["c", "a", "e", "b", "d"])
        for turn in range(20):
            places = random.Random(turn).sample(SOME, len(SOME))
            self.assertEqual(ordered(places), ["c", "a", "e", "b", "d"])

    def test_chains(self):
        chain = [(n, None if n == 0 else n - 1, (n + 1, 0)) for n in range(9)]
        self.assertEqual(ordered(chain[::-1]), list(range(9)))

    def test_many_behind_one(self):
        many = [("a", None, (1, 0))] + [(n, "a", (2 + n, 0)) for n in range(30)]
        self.assertEqual(ordered(many), ["a"] + list(range(29, -1, -1)))

    def test_keys_of_two_and_of_three_numbers(self):
        places = [("a", None, (2, 1)), ("b", None, (2, 1, 0)), ("c", None, (2, 0, 9)), ("d", None, (10, 0))]
        self.assertEqual(ordered(places), ["d", "b", "a", "c"])

    def test_keys_are_ordered_as_tuples_are(self):
        places = [("a", None, (2, 5)), ("b", None, (10, 1)), ("c", None, (2, 10))]
        self.assertEqual(ordered(places), ["b", "c", "a"])

    def test_a_key_not_greater_than_that_ahead(self):
        places = [("a", None, (9, 0)), ("b", "a", (1, 0)), ("c", "b", (5, 0)), ("d", None, (3, 0))]
        self.assertEqual(ordered(places), ["a", "b", "c", "d"])
        self.assertTrue(is_ahead(places, "c", "d"))

    def test_held_against_the_words(self):
        chance = random.Random(9)
        for turn in range(300):
            places = any_places(chance, chance.randint(0, 20), turn % 2 == 0)
            self.assertEqual(ordered(places), order_by_words(places))

    def test_two_thousand_one_behind_the_other(self):
        chain = [(n, None if n == 0 else n - 1, (n, 0)) for n in range(2000)]
        self.assertEqual(ordered(chain), list(range(2000)))
        self.assertEqual(line_of(chain, 1999), list(range(1999, -1, -1)))
        self.assertTrue(is_ahead(chain, 3, 1999))
        self.assertFalse(is_ahead(chain, 1999, 1998))

    def test_two_thousand_behind_one_and_behind_none(self):
        self.assertEqual(ordered([(n, None, (n, 0)) for n in range(2000)]), list(range(1999, -1, -1)))


class Lines(unittest.TestCase):
    def test_from_the_name_back_to_the_begin(self):
        self.assertEqual(line_of(SOME, "d"), ["d", "b", "a"])
        self.assertEqual(line_of(SOME, "c"), ["c"])
        self.assertEqual(line_of(SOME[::-1], "e"), ["e", "a"])

    def test_ahead_where_a_line_ends_in_the_other(self):
        self.assertIs(is_ahead(SOME, "a", "d"), True)
        self.assertIs(is_ahead(SOME, "d", "a"), False)

    def test_ahead_where_both_lines_part(self):
        self.assertIs(is_ahead(SOME, "c", "d"), True)
        self.assertIs(is_ahead(SOME, "d", "c"), False)
        self.assertIs(is_ahead(SOME, "e", "d"), True)
        self.assertIs(is_ahead(SOME, "d", "e"), False)

    def test_ahead_is_the_order(self):
        chance = random.Random(10)
        for turn in range(100):
            places = any_places(chance, chance.randint(2, 14), turn % 2 == 0)
            row = ordered(places)
            for one in row:
                for other in row:
                    if one != other:
                        self.assertIs(is_ahead(places, one, other), row.index(one) < row.index(other))


class Greatest(unittest.TestCase):
    def test_a_place_of_greatest_key_comes_right_behind_the_one_that_it_names(self):
        chance = random.Random(11)
        for turn in range(200):
            places = any_places(chance, chance.randint(0, 15), True)
            row = ordered(places)
            behind = chance.choice([None] + row)
            later = ordered(places + [("new", behind, (1000, 0))])
            self.assertEqual([name for name in later if name != "new"], row)
            self.assertEqual(later.index("new"), 0 if behind is None else row.index(behind) + 1)

    def test_what_is_handed_in_stays(self):
        places = list(SOME)
        kept = copy.deepcopy(places)
        row = ordered(places)
        line = line_of(places, "d")
        is_ahead(places, "c", "d")
        row.append("x")
        line.append("x")
        self.assertEqual(places, kept)
        self.assertEqual(ordered(places), ["c", "a", "e", "b", "d"])
        self.assertEqual(line_of(places, "d"), ["d", "b", "a"])


if __name__ == "__main__":
    unittest.main()
