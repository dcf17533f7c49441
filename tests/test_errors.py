"""The refusals: the interface's pagefolk/errors.py."""

import unittest

from pagefolk.errors import FolkError, NoDeed, NoLeave, NoPast, NoRow, NoSet, NoThing, Poured, Unlike

OF_A_TEXT = (NoDeed, NoSet, NoPast, Poured, NoThing, NoLeave, NoRow)
ALL = OF_A_TEXT + (Unlike,)


class Errors(unittest.TestCase):
    def test_a_folk_error_is_a_value_error(self):
        self.assertTrue(issubclass(FolkError, ValueError))
        with self.assertRaises(ValueError):
            raise FolkError("any refusal")

    def test_each_one_is_a_folk_error(self):
        for error in ALL:
            self.assertTrue(issubclass(error, FolkError), error)
            self.assertTrue(issubclass(error, ValueError), error)
            self.assertNotEqual(error, FolkError)

    def test_none_stands_under_another_one(self):
        for one in ALL:
            for other in ALL:
                self.assertEqual(issubclass(one, other), one == other, (one, other))

    def test_they_are_made_of_a_text(self):
        for error in OF_A_TEXT:
            with self.assertRaises(error) as caught:
                raise error("some words")
            self.assertEqual(str(caught.exception), "some words")

    def test_unlike_tells_its_name(self):
        with self.assertRaises(FolkError) as caught:
            raise Unlike(("ann", 3))
        self.assertIsInstance(caught.exception, Unlike)
        self.assertEqual(caught.exception.name, ("ann", 3))


if __name__ == "__main__":
    unittest.main()
