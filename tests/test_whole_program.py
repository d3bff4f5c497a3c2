"""Point 1: nothing handed in is changed or kept, what is told is new, nothing outside is used."""

import ast
import unittest
from pathlib import Path

import evenglasses
from evenglasses.answers import Alike, Never
from evenglasses.ends import alike, ends, fewest_most
from evenglasses.errors import BadEvening, BadRow
from evenglasses.rows import evened, evenings, fall, settled

PACKAGE = Path(evenglasses.__file__).parent
OUTSIDE = {"open", "input", "print", "eval", "exec", "__import__"}
ALLOWED_MODULES = {"heapq", "math", "itertools", "collections", "__future__"}


def calls():
    """The functions over rows, each as a call of a row whose first two numbers can be evened."""
    return [evenings, settled,
            lambda row: evened(row, (0, 1)),
            lambda row: fall(row, (0, 1))]


def small_calls():
    """The functions over small rows, what is told by Alike as its list of evenings."""
    return [lambda row: getattr(alike(row), "evenings", None), fewest_most, ends]


class HandedInTest(unittest.TestCase):
    def test_not_changed(self):
        for at, call in enumerate(calls()):
            for row in ([1, 3], [6, 2, 5, 5, 0], list(range(0, 24, 2))):
                with self.subTest(at=at, row=row):
                    before = list(row)
                    call(row)
                    self.assertEqual(row, before)

    def test_small_rows_not_changed(self):
        for at, call in enumerate(small_calls() + [Never().shows, Alike([(0, 1), (2, 4)]).shows]):
            for row in ([1, 3], [6, 2, 5, 5, 0], [20, 16, 0, 7, 4], [4, 0, 4, 0], [3, 3]):
                with self.subTest(at=at, row=row):
                    before = list(row)
                    call(row)
                    self.assertEqual(row, before)

    def test_small_rows_not_changed_where_refused(self):
        for call in small_calls():
            for row in ([4, 2, 21], [4, 2, -1], [4, 2, 0, 0, 0, 0]):
                before = list(row)
                self.assertRaises(BadRow, call, row)
                self.assertEqual(row, before)

    def test_small_rows_not_kept(self):
        row = [0, 2, 1]
        answer = alike(row)
        told = [call(row) for call in small_calls()]
        row[2] = 5
        self.assertEqual(told, [[(0, 1)], (1, 1), [[1, 1, 1]]])
        self.assertEqual([call(row) for call in small_calls()],
                         [None, (3, 3), [[2, 2, 3], [2, 3, 2], [3, 2, 2]]])
        self.assertIs(answer.shows([0, 2, 1]), True)
        self.assertIs(answer.shows(row), False)

    def test_not_changed_where_refused(self):
        for at, call in enumerate(calls()):
            with self.subTest(at=at):
                row = [4, 2, True]
                self.assertRaises(BadRow, call, row)
                self.assertEqual(row, [4, 2, True])
                self.assertIs(row[2], True)
        for function in (evened, fall):
            row = [4, 2, 1]
            self.assertRaises(BadEvening, function, row, (1, 0))
            self.assertEqual(row, [4, 2, 1])

    def test_not_kept(self):
        row = [0, 2, 5]
        told = [call(row) for call in calls()]
        self.assertEqual(told, [[(0, 1)], False, [1, 1, 5], 2])
        row[1] = 6
        row[2] = 8
        self.assertEqual(told, [[(0, 1)], False, [1, 1, 5], 2])
        self.assertEqual([call(row) for call in calls()],
                         [[(0, 1), (0, 2), (1, 2)], False, [3, 3, 8], 18])


class ToldTest(unittest.TestCase):
    def test_evenings_are_new_each_time(self):
        row = [0, 2, 4]
        told = evenings(row)
        told.clear()
        self.assertEqual(evenings(row), [(0, 1), (0, 2), (1, 2)])
        self.assertIsNot(evenings(row), evenings(row))
        none = evenings([3])
        none.append((0, 1))
        self.assertEqual(evenings([3]), [])

    def test_the_row_behind_is_new_each_time(self):
        row = [0, 2, 5]
        told = evened(row, (0, 1))
        self.assertIsNot(told, row)
        told[2] = 99
        self.assertEqual(row, [0, 2, 5])
        self.assertEqual(evened(row, (0, 1)), [1, 1, 5])
        self.assertIsNot(evened(row, (0, 1)), evened(row, (0, 1)))


    def test_alike_is_new_each_time_and_its_field_too(self):
        row = [0, 0, 4, 4]
        told = alike(row)
        wanted = list(told.evenings)
        self.assertIsNot(alike(row), told)
        self.assertIsNot(alike(row).evenings, told.evenings)
        told.evenings.clear()
        self.assertEqual(alike(row).evenings, wanted)
        told.evenings = None
        self.assertEqual(alike(row).evenings, wanted)
        none = alike([3, 3])
        none.evenings.append((0, 1))
        self.assertEqual(alike([3, 3]).evenings, [])

    def test_never_is_new_each_time(self):
        self.assertIsNot(alike([0, 1]), alike([0, 1]))

    def test_ends_are_new_each_time(self):
        told = ends([0, 4, 6])
        told[1].append(9)
        told.pop()
        self.assertEqual(ends([0, 4, 6]), [[0, 5, 5], [3, 3, 4], [3, 4, 3], [4, 3, 3]])
        row = [0, 0, 3]
        told = ends(row)
        self.assertIsNot(told[0], row)
        told[0][0] = 8
        self.assertEqual(row, [0, 0, 3])
        self.assertEqual(ends(row), [[0, 0, 3]])


class NumbersTest(unittest.TestCase):
    def test_true_and_false_are_no_numbers(self):
        for call in calls() + small_calls():
            for row in ([True], [False], [True, 3], [3, True], [False, 2], [2, 0, False],
                        [0, 2] * 5 + [0, True]):
                with self.subTest(row=row), self.assertRaises(BadRow):
                    call(row)

    def test_0_and_1_are_numbers(self):
        self.assertEqual(evenings([0, 1, 2, 3]), [(0, 2), (1, 3)])
        self.assertEqual(evened([0, 1, 2], (0, 2)), [1, 1, 1])
        self.assertEqual(alike([0, 1, 2]).evenings, [(0, 2)])
        self.assertEqual(ends([0, 1]), [[0, 1]])


class OutsideTest(unittest.TestCase):
    def test_no_clock_chance_or_file(self):
        files = sorted(PACKAGE.rglob("*.py"))
        self.assertIn(PACKAGE / "rows.py", files)
        for file in files:
            for node in ast.walk(ast.parse(file.read_text(encoding="utf-8"))):
                with self.subTest(file=file.name, line=getattr(node, "lineno", 0)):
                    self.assertNotIsInstance(node, ast.Import)
                    if isinstance(node, ast.ImportFrom):
                        top = node.module.split(".")[0]
                        self.assertIn(top, ALLOWED_MODULES | {"evenglasses"})
                    if isinstance(node, ast.Name):
                        self.assertNotIn(node.id, OUTSIDE)


if __name__ == "__main__":
    unittest.main()
