"""Changes and prices: [2], [3] (h), [37], [38]."""

import copy
import itertools
import random
import unittest

from pagefolk.changes import are_prices, cost_of, gone_along, least_change, prices


def least_by_trying(one, other):
    """The least cost, by trying all."""
    if not one or not other:
        return len(one) + len(other)
    tries = [1 + least_by_trying(one[1:], other), 1 + least_by_trying(one, other[1:])]
    return min(tries + ([least_by_trying(one[1:], other[1:])] if one[0] == other[0] else []))


def short_lists(most, letters="ab"):
    return [list(some) for many in range(most + 1) for some in itertools.product(letters, repeat=many)]


class Changes(unittest.TestCase):
    def hold(self, one, other, cost):
        change = least_change(one, other)
        self.assertEqual(gone_along(change, one), other)
        self.assertEqual(cost_of(change), cost)
        self.formed(change)
        return change

    def formed(self, change):
        self.assertIsInstance(change, list)
        for kind, told in change:
            self.assertIn(kind, ("keep", "out", "put"))
            if kind == "put":
                self.assertIsInstance(told, list)
                self.assertGreater(len(told), 0)
            else:
                self.assertGreater(told, 0)
        kinds = [kind for kind, told in change]
        for kind, following in zip(kinds, kinds[1:]):
            self.assertNotEqual(kind, following)
            self.assertNotEqual((kind, following), ("put", "out"))

    def test_empty_lists(self):
        self.assertEqual(self.hold([], [], 0), [])
        self.assertEqual(self.hold(["a", "b"], [], 2), [("out", 2)])
        self.assertEqual(self.hold([], ["a", "b"], 2), [("put", ["a", "b"])])

    def test_alike(self):
        self.assertEqual(self.hold(list("abca"), list("abca"), 0), [("keep", 4)])

    def test_all_unlike(self):
        self.assertEqual(self.hold(list("abc"), list("xy"), 5), [("out", 3), ("put", ["x", "y"])])

    def test_some(self):
        self.assertEqual(self.hold(list("abcd"), list("abxd"), 2), [("keep", 2), ("out", 1), ("put", ["x"]), ("keep", 1)])
        self.assertEqual(self.hold(list("abc"), list("ac"), 1), [("keep", 1), ("out", 1), ("keep", 1)])
        self.hold(["*sun", "a", "#1"], ["a", "#1", "*sun"], 2)

    def test_all_short_lists(self):
        for one in short_lists(4):
            for other in short_lists(4):
                self.hold(one, other, least_by_trying(one, other))

    def test_lists_of_three_letters(self):
        chance = random.Random(37)
        for turn in range(300):
            one, other = [chance.choices("abc", k=chance.randint(0, 7)) for n in range(2)]
            self.hold(one, other, least_by_trying(one, other))

    def test_no_change_of_short_lists_is_cheaper(self):
        kinds = [("keep", n) for n in (1, 2, 3)] + [("out", n) for n in (1, 2, 3)] + [("put", list(some)) for some in (
            "a", "b", "ab", "ba", "aa", "bb")]
        changes = [list(some) for many in range(4) for some in itertools.product(kinds, repeat=many)]
        for one, other in ((list("abb"), list("bab")), (list("aab"), list("ba")), (list("ba"), list("abab"))):
            cost = cost_of(least_change(one, other))
            fitting = [change for change in changes if gone_along(change, one) == other]
            self.assertGreater(len(fitting), 3)
            self.assertEqual(min(cost_of(change) for change in fitting), cost)

    def test_long_lists(self):
        one = [chr(97 + n * n % 7) for n in range(600)]
        other = [chr(97 + n * n % 5) for n in range(500)]
        change = least_change(one, other)
        self.formed(change)
        self.assertEqual(gone_along(change, one), other)
        self.assertEqual(cost_of(change), prices(one, other)[0][0])
        same = ["a"] * 2000
        self.assertEqual(least_change(same, same), [("keep", 2000)])
        self.assertEqual(least_change(same[:1999], same[:1000] + ["b"] + same[:999]),
                         [("keep", 1000), ("put", ["b"]), ("keep", 999)])

    def test_gone_along(self):
        one = ["a", "b", "c"]
        self.assertEqual(gone_along([("keep", 3)], one), one)
        self.assertEqual(gone_along([("out", 3)], one), [])
        self.assertEqual(gone_along([("put", ["x"]), ("keep", 1), ("out", 1), ("keep", 1), ("put", ["y", "z"])], one),
                         ["x", "a", "c", "y", "z"])
        self.assertEqual(gone_along([], []), [])
        self.assertEqual(gone_along([("put", ["x"])], []), ["x"])
        self.assertEqual(gone_along([("keep", 1), ("keep", 2)], one), one)

    def test_changes_that_do_not_fit(self):
        for change in ([], [("keep", 2)], [("keep", 4)], [("out", 4)], [("out", 2)], [("keep", 2), ("out", 2)],
                       [("put", ["a", "b", "c"])], [("out", 9), ("put", ["a"])], [("keep", 99)]):
            self.assertIsNone(gone_along(change, ["a", "b", "c"]))
        self.assertIsNone(gone_along([("keep", 1)], []))
        self.assertIsNone(gone_along([("out", 1)], []))

    def test_cost(self):
        self.assertEqual(cost_of([]), 0)
        self.assertEqual(cost_of([("keep", 9)]), 0)
        self.assertEqual(cost_of([("out", 4), ("put", ["a", "b"]), ("keep", 2), ("out", 1)]), 7)

    def test_what_is_handed_in_stays(self):
        handed = [list("abca"), list("bxa"), [("out", 1), ("keep", 1), ("put", ["x"]), ("out", 1), ("keep", 1)]]
        kept = copy.deepcopy(handed)
        change = least_change(handed[0], handed[1])
        made = gone_along(handed[2], handed[0])
        table = prices(handed[0], handed[1])
        are_prices(handed[0], handed[1], table)
        cost_of(handed[2])
        for some in (change, made, table):
            some.clear()
        self.assertEqual(handed, kept)
        whole = [("put", ["a"])]
        gone_along(whole, []).append("b")
        self.assertEqual(whole, [("put", ["a"])])


class Prices(unittest.TestCase):
    def test_prices(self):
        self.assertEqual(prices([], []), [[0]])
        self.assertEqual(prices(["a"], []), [[1], [0]])
        self.assertEqual(prices([], ["a", "b"]), [[2, 1, 0]])
        self.assertEqual(prices(["a"], ["a"]), [[0, 1], [1, 0]])
        self.assertEqual(prices(["a"], ["b"]), [[2, 1], [1, 0]])

    def test_they_are_prices_and_the_first_is_the_least_cost(self):
        for one in short_lists(4):
            for other in short_lists(3):
                table = prices(one, other)
                self.assertIs(are_prices(one, other, table), True)
                self.assertEqual(table[0][0], least_by_trying(one, other))

    def test_no_prices_are_greater(self):
        """Of all small tables that are prices, the first is no greater than any change's cost."""
        one, other = ["a"], ["a", "b"]
        least = least_by_trying(one, other)
        found = set()
        for told in itertools.product(range(-3, 4), repeat=6):
            table = [list(told[:3]), list(told[3:])]
            if are_prices(one, other, table):
                found.add(table[0][0])
        self.assertEqual(max(found), least)
        self.assertGreater(len(found), 2)

    def test_no_prices(self):
        one, other = list("ab"), list("cb")
        right = prices(one, other)
        self.assertEqual(right, [[2, 1, 2], [1, 0, 1], [2, 1, 0]])
        self.assertIs(are_prices(one, other, right), True)
        for row in range(3):
            for column in range(3):
                for price in (-3, 2):
                    bent = copy.deepcopy(right)
                    bent[row][column] += price
                    self.assertIs(are_prices(one, other, bent), False, bent)
        self.assertIs(are_prices(one, other, [[3, 2, 3], [2, 1, 2], [3, 2, 1]]), False)
        self.assertIs(are_prices(one, other, [[2, 1, 2], [2, 1, 1], [2, 1, 0]]), False)
        self.assertIs(are_prices(["a"], ["a"], [[1, 1], [1, 0]]), False)
        self.assertIs(are_prices(["a"], ["b"], [[1, 1], [1, 0]]), True)
        self.assertIs(are_prices(["a"], ["b"], [[0, 0], [1, 0]]), True)
        self.assertIs(are_prices(["a"], ["b"], [[2, 2], [1, 0]]), False)
        self.assertIs(are_prices(["a"], ["b"], [[2, 1], [2, 0]]), False)
        self.assertIs(are_prices(["a"], ["a"], [[-1, 0], [0, 0]]), True)

    def test_other_lengths(self):
        for table in ([], [[]], [[0]], [[0, 1], [1]], [[0, 1, 2], [1, 0, 1]], [[0, 1], [1, 0], [2, 1]], [[1, 0]], [[0], [1]],
                      [[], []], [[0, 1], [1, 0, 0]], [[0, 0, 1], [1, 0]]):
            self.assertIs(are_prices(["a"], ["a"], table), False, table)
        self.assertIs(are_prices([], [], [[0]]), True)
        self.assertIs(are_prices([], [], [[1]]), False)
        self.assertIs(are_prices([], [], []), False)
        self.assertIs(are_prices([], [], [[0], []]), False)


if __name__ == "__main__":
    unittest.main()
