"""What stands and counts among deeds of which it is known which are good: [13], and what is there [16]."""

import unittest

from pagefolk.deeds import MAIN, name_of
from pagefolk.floors import bare_floor
from pagefolk.grounds import Ground, branch_words, counting_of, last_words

TRY = ("ann", "try")


def ann(number, what=("nothing",), branch=None):
    return ("ann", number, (number - 1, 0), branch, what)


def bob(number, what=("nothing",), branch=None):
    return ("bob", number, (0, number - 1), branch, what)


def all_good(deeds, but=()):
    return dict([(name_of(deed), name_of(deed) not in but) for deed in deeds])


def counted(deeds, branch=None, but=()):
    return [name_of(deed) for deed in counting_of(deeds, all_good(deeds, but), branch)]


class Standing(unittest.TestCase):
    def test_the_last_good_word_by_number(self):
        deeds = [ann(1, ("part", MAIN)), ann(2, ("back", 1)), ann(3, ("again", 1)), ann(4, ("back", 1))]
        self.assertEqual(last_words(deeds, all_good(deeds)), {("ann", 1): "back"})
        self.assertEqual(last_words(deeds[:3], all_good(deeds)), {("ann", 1): "again"})
        self.assertEqual(last_words(deeds, all_good(deeds, but=[("ann", 4)])), {("ann", 1): "again"})
        self.assertEqual(last_words(deeds[:1], all_good(deeds)), {})

    def test_a_word_is_on_a_deed_of_its_own_hand(self):
        deeds = [ann(1, ("part", MAIN)), bob(1, ("part", MAIN)), bob(2, ("back", 1))]
        self.assertEqual(counted(deeds), [("ann", 1), ("bob", 2)])

    def test_words_on_branches(self):
        deeds = [ann(1, ("bring", "try")), bob(1, ("drop", "try")), bob(2, ("drop", "more"))]
        words = branch_words(deeds, all_good(deeds, but=[("bob", 2)]))
        self.assertEqual(words, {("ann", "try"): "bring", ("bob", "try"): "drop"})


class Counting(unittest.TestCase):
    def test_good_ones_that_stand(self):
        deeds = [ann(1, ("part", MAIN)), ann(2, ("part", MAIN)), ann(3, ("back", 1)), ann(4)]
        self.assertEqual(counted(deeds), [("ann", 2), ("ann", 3), ("ann", 4)])
        self.assertEqual(counted(deeds, but=[("ann", 3), ("ann", 4)]), [("ann", 1), ("ann", 2)])

    def test_branches(self):
        deeds = [ann(1), ann(2, branch=TRY), ann(3, branch=("bob", "try"))]
        self.assertEqual(counted(deeds), [("ann", 1)])
        self.assertEqual(counted(deeds, TRY), [("ann", 1), ("ann", 2)])
        self.assertEqual(counted(deeds + [ann(4, ("bring", "try"))]), [("ann", 1), ("ann", 2), ("ann", 4)])
        self.assertEqual(counted(deeds + [ann(4, ("drop", "try"))]), [("ann", 1), ("ann", 4)])
        self.assertEqual(counted(deeds + [ann(4, ("drop", "try"))], TRY), [("ann", 1), ("ann", 2), ("ann", 4)])
        self.assertEqual(counted(deeds + [ann(4, ("bring", "try"))], ("bob", "try")),
                         [("ann", 1), ("ann", 2), ("ann", 3), ("ann", 4)])
        self.assertEqual(counted(deeds + [ann(4, ("bring", "try"))], but=[("ann", 4)]), [("ann", 1)])
        self.assertEqual(counted(deeds + [bob(1, ("bring", "try"))]), [("ann", 1), ("ann", 3), ("bob", 1)])


class There(unittest.TestCase):
    def ground(self, *deeds):
        keys = dict([(name_of(deed), (deed[1], 0)) for deed in deeds])
        return Ground(bare_floor(["ann", "bob"]), list(deeds), keys)

    def test_parts(self):
        ground = self.ground(ann(1, ("part", MAIN)), ann(2, ("part", ("ann", 1))), ann(3, ("cut", ("ann", 1))), ann(4))
        self.assertTrue(ground.has_part(MAIN))
        self.assertFalse(ground.has_part(("ann", 1)))
        self.assertTrue(ground.has_part(("ann", 2)))
        self.assertFalse(ground.has_part(("ann", 4)))
        self.assertFalse(ground.has_part(("bob", 1)))

    def test_signs(self):
        ground = self.ground(ann(1, ("put", MAIN, None, ("a", "b", "c"))), ann(2, ("out", MAIN, (("ann", 1, 1),))))
        self.assertTrue(ground.has_sign(MAIN, ("ann", 1, 0)))
        self.assertFalse(ground.has_sign(MAIN, ("ann", 1, 1)))
        self.assertTrue(ground.has_sign(MAIN, ("ann", 1, 2)))
        self.assertFalse(ground.has_sign(MAIN, ("ann", 1, 3)))
        self.assertFalse(ground.has_sign(("ann", 1), ("ann", 1, 0)))
        self.assertFalse(ground.has_sign(MAIN, ("ann", 2, 0)))
        self.assertFalse(ground.has_sign(MAIN, ("bob", 1, 0)))

    def test_lines(self):
        ground = self.ground(ann(1, ("line", MAIN, "row", None)), ann(2, ("line", MAIN, "column", None)),
                             ann(3, ("line", MAIN, "row", None)), ann(4, ("strike", MAIN, ("ann", 3))))
        self.assertTrue(ground.has_line(MAIN, ("row",), ("ann", 1)))
        self.assertFalse(ground.has_line(MAIN, ("column",), ("ann", 1)))
        self.assertTrue(ground.has_line(MAIN, ("row", "column"), ("ann", 2)))
        self.assertFalse(ground.has_line(MAIN, ("row",), ("ann", 3)))
        self.assertFalse(ground.has_line(("bob", 1), ("row",), ("ann", 1)))
        self.assertFalse(ground.has_line(MAIN, ("row",), ("ann", 4)))

    def test_leaves(self):
        ground = self.ground(ann(1, ("leave", MAIN, "bob", "write", True)), ann(2, ("leave", MAIN, "bob", "read", False)))
        self.assertTrue(ground.lets(["ann", "bob"], [], "bob", MAIN, "write"))
        self.assertFalse(ground.lets(["ann", "bob"], [], "bob", MAIN, "read"))
        self.assertTrue(ground.lets(["ann", "bob"], [(("ann", 5), MAIN)], "bob", ("ann", 5), "note"))


if __name__ == "__main__":
    unittest.main()
