"""Tables: [2], [22]."""

import copy
import random
import unittest

import plain
from making import some_deeds, told
from pagefolk.facts import facts_of
from pagefolk.sets import Folk
from pagefolk.tables import lines_of, table_of

ROLL = ["ann", "bob"]
MAIN = ("", 0)
# Rows: 3, 1; columns: 2, 4.
BEGIN = "ann line . row -\nann line . column -\nann line . row -\nann line . column ann.2\n"


def facts(text, branch=None):
    return facts_of(Folk(ROLL, told(ROLL, text)), branch)


def n(number):
    return ("ann", number)


class Tables(unittest.TestCase):
    def table(self, text, rows, columns, words, branch=None):
        some = facts(text, branch)
        self.assertEqual(table_of(some, MAIN), ([n(row) for row in rows], [n(column) for column in columns], words))
        self.assertEqual(lines_of(some, MAIN, "row"), [n(row) for row in rows])
        self.assertEqual(lines_of(some, MAIN, "column"), [n(column) for column in columns])

    def test_none(self):
        self.table("ann nothing", [], [], [])
        self.assertEqual(table_of(facts(BEGIN), n(9)), ([], [], []))

    def test_rows_and_columns_in_order(self):
        self.table(BEGIN, [3, 1], [2, 4], [["", ""], ["", ""]])
        self.table(BEGIN + "ann line . row ann.3\nann line . column ann.2", [3, 5, 1], [2, 6, 4], [["", "", ""]] * 3)

    def test_rows_and_no_columns(self):
        self.table("ann line . row -\nann line . row -", [2, 1], [], [[], []])
        self.table("ann line . column -", [], [1], [])

    def test_struck_lines(self):
        self.table(BEGIN + "ann strike . ann.3", [1], [2, 4], [["", ""]])
        self.table(BEGIN + "ann strike . ann.2", [3, 1], [4], [[""], [""]])
        self.table(BEGIN + "ann strike . ann.3\nann back 5", [3, 1], [2, 4], [["", ""], ["", ""]])
        self.table(BEGIN + "ann back 3", [1], [2, 4], [["", ""]])

    def test_struck_lines_keep_their_places(self):
        self.table("ann line . row -\nann line . row ann.1\nann line . row ann.2\nann strike . ann.2\nann line . row ann.1",
                   [1, 5, 3], [], [[], [], []])

    def test_cells(self):
        self.table(BEGIN + "ann cell . ann.1 ann.2 x\nann cell . ann.3 ann.4 y", [3, 1], [2, 4], [["", "y"], ["x", ""]])

    def test_cells_said_twice(self):
        cells = BEGIN + "ann cell . ann.1 ann.2 x\nann cell . ann.1 ann.2 y\n"
        self.table(cells, [3, 1], [2, 4], [["", ""], ["y", ""]])
        self.table(cells + "ann back 6", [3, 1], [2, 4], [["", ""], ["x", ""]])
        self.table(cells + "ann cell . ann.1 ann.2 !", [3, 1], [2, 4], [["", ""], ["", ""]])

    def test_cells_of_struck_lines(self):
        cells = BEGIN + "ann cell . ann.1 ann.2 x\nann strike . ann.1\n"
        self.table(cells, [3], [2, 4], [["", ""]])
        self.table(cells + "ann back 6", [3, 1], [2, 4], [["", ""], ["x", ""]])

    def test_each_part_has_its_own(self):
        some = facts("ann part .\nann line ann.1 row -\nann line ann.1 column -\nann line . row -\nann cell ann.1 ann.2 ann.3 x")
        self.assertEqual(table_of(some, n(1)), ([n(2)], [n(3)], [["x"]]))
        self.assertEqual(table_of(some, MAIN), ([n(4)], [], [[]]))

    def test_on_a_branch(self):
        text = BEGIN + "ann/bob.try cell . ann.1 ann.2 x\nann/bob.try line . row ann.1\nann/bob.try strike . ann.3"
        self.table(text, [3, 1], [2, 4], [["", ""], ["", ""]])
        self.table(text, [1, 6], [2, 4], [["x", ""], ["", ""]], branch=("bob", "try"))

    def test_the_order_of_cells_in_facts(self):
        some = facts(BEGIN + "ann cell . ann.1 ann.2 x\nann cell . ann.1 ann.2 y")
        some["cells"] = some["cells"][::-1]
        self.assertEqual(table_of(some, MAIN)[2], [["", ""], ["y", ""]])
        some["cells"].append((n(5), n(1), n(2), "z", (9, 0)))
        self.assertEqual(table_of(some, MAIN)[2], [["", ""], ["y", ""]])


class Whole(unittest.TestCase):
    def test_held_against_the_words(self):
        kinds = ["line"] * 6 + ["cell"] * 8 + ["strike", "back", "again", "part"]
        for turn in range(100):
            deeds = some_deeds(random.Random(turn), ROLL, 40, kinds)
            some = facts_of(Folk(ROLL, deeds))
            kept = copy.deepcopy(some)
            for part in [MAIN] + [birth[0] for birth in some["births"]]:
                self.assertEqual(table_of(some, part), plain.table_of(some, part))
                for way in ("row", "column"):
                    self.assertEqual(lines_of(some, part, way), plain.lines_of(some, part, way))
            table_of(some, MAIN)[0].append("x")
            self.assertEqual(some, kept)


if __name__ == "__main__":
    unittest.main()
