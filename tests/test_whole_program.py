"""Point 1: nothing handed in is changed or kept, what is told is new, nothing outside is used."""

import ast
import unittest
from pathlib import Path

import evenglasses
from evenglasses.errors import BadEvening, BadRow
from evenglasses.rows import evened, evenings, fall, settled

PACKAGE = Path(evenglasses.__file__).parent
OUTSIDE = {"open", "input", "print", "eval", "exec", "__import__"}
ALLOWED_MODULES = {"heapq", "math", "itertools", "collections", "__future__"}


def calls():
    """The four functions, each as a call of a row whose first two numbers can be evened."""
    return [evenings, settled,
            lambda row: evened(row, (0, 1)),
            lambda row: fall(row, (0, 1))]


class HandedInTest(unittest.TestCase):
    def test_not_changed(self):
        for at, call in enumerate(calls()):
            for row in ([1, 3], [6, 2, 5, 5, 0], list(range(0, 24, 2))):
                with self.subTest(at=at, row=row):
                    before = list(row)
                    call(row)
                    self.assertEqual(row, before)

    def test_not_changed_where_refused(self):
        for at, call in enumerate(calls()):
            with self.subTest(at=at):
                row = [4, 2, True]
                self.assertRaises(BadRow, call, row)
                self.assertEqual(row, [4, 2, True])
                self.assertIs(row[2], True)
        for function in (evened, fall):
            row = [4, 2, 1]
            self.assertRaises(BadEvening, function, row, (1, 0))
            self.assertEqual(row, [4, 2, 1])

    def test_not_kept(self):
        row = [0, 2, 5]
        told = [call(row) for call in calls()]
        self.assertEqual(told, [[(0, 1)], False, [1, 1, 5], 2])
        row[1] = 6
        row[2] = 8
        self.assertEqual(told, [[(0, 1)], False, [1, 1, 5], 2])
        self.assertEqual([call(row) for call in calls()],
                         [[(0, 1), (0, 2), (1, 2)], False, [3, 3, 8], 18])


class ToldTest(unittest.TestCase):
    def test_evenings_are_new_each_time(self):
        row = [0, 2, 4]
        told = evenings(row)
        told.clear()
        self.assertEqual(evenings(row), [(0, 1), (0, 2), (1, 2)])
        self.assertIsNot(evenings(row), evenings(row))
        none = evenings([3])
        none.append((0, 1))
        self.assertEqual(evenings([3]), [])

    def test_the_row_behind_is_new_each_time(self):
        row = [0, 2, 5]
        told = evened(row, (0, 1))
        self.assertIsNot(told, row)
        told[2] = 99
        self.assertEqual(row, [0, 2, 5])
        self.assertEqual(evened(row, (0, 1)), [1, 1, 5])
        self.assertIsNot(evened(row, (0, 1)), evened(row, (0, 1)))


class NumbersTest(unittest.TestCase):
    def test_true_and_false_are_no_numbers(self):
        for call in calls():
            for row in ([True], [False], [True, 3], [3, True], [False, 2], [2, 0, False],
                        [0, 2] * 5 + [0, True]):
                with self.subTest(row=row), self.assertRaises(BadRow):
                    call(row)

    def test_0_and_1_are_numbers(self):
        self.assertEqual(evenings([0, 1, 2, 3]), [(0, 2), (1, 3)])
        self.assertEqual(evened([0, 1, 2], (0, 2)), [1, 1, 1])


class OutsideTest(unittest.TestCase):
    def test_no_clock_chance_or_file(self):
        files = sorted(PACKAGE.rglob("*.py"))
        self.assertIn(PACKAGE / "rows.py", files)
        for file in files:
            for node in ast.walk(ast.parse(file.read_text(encoding="utf-8"))):
                with self.subTest(file=file.name, line=getattr(node, "lineno", 0)):
                    self.assertNotIsInstance(node, ast.Import)
                    if isinstance(node, ast.ImportFrom):
                        top = node.module.split(".")[0]
                        self.assertIn(top, ALLOWED_MODULES | {"evenglasses"})
                    if isinstance(node, ast.Name):
                        self.assertNotIn(node.id, OUTSIDE)


if __name__ == "__main__":
    unittest.main()
