"""Points 4, 5 and 6: whether all can be alike, the fewest and the most evenings, the settled rows."""

import inspect
import subprocess
import sys
import unittest
from functools import lru_cache
from itertools import combinations, product
from pathlib import Path

import evenglasses
from evenglasses import ends as ends_file
from evenglasses.answers import Alike, Never
from evenglasses.ends import alike, ends, fewest_most
from evenglasses.rows import evened, settled

TOP = Path(evenglasses.__file__).parent.parent
# Rows that can come to several thousand rows each, by very many ways.
WIDE = [[0, 0, 12, 20, 20], [20, 20, 0, 16, 0], [4, 18, 1, 20, 2], [5, 20, 2, 0, 17],
        [0, 4, 14, 2, 20], [20, 0, 20, 0, 8], [18, 2, 6, 14, 10], [9, 1, 17, 7, 20]]


def rows_behind(row):
    """What stands behind each evening of the row, found without the package."""
    found = []
    for first, second in combinations(range(len(row)), 2):
        total = row[first] + row[second]
        if row[first] != row[second] and total % 2 == 0:
            behind = list(row)
            behind[first] = behind[second] = total // 2
            found.append(tuple(behind))
    return found


class Search:
    """A search of the tests' own: all that points 4, 5 and 6 tell of a row."""

    def __init__(self, row):
        self.known = {}
        self.fewest, self.most, self.fewest_to_alike = self.reckon(tuple(row))
        self.ends = sorted(list(one) for one in self.known if not rows_behind(one))

    def reckon(self, row):
        if row not in self.known:
            told = [self.reckon(behind) for behind in rows_behind(row)]
            to_alike = [way for _, _, way in told if way is not None]
            self.known[row] = (
                1 + min(few for few, _, _ in told) if told else 0,
                1 + max(many for _, many, _ in told) if told else 0,
                0 if len(set(row)) == 1 else 1 + min(to_alike) if to_alike else None)
        return self.known[row]


@lru_cache(maxsize=None)
def searched():
    """Small rows of each length, of low and of high numbers, each with its search."""
    rows = [list(row) for row in product(range(21), repeat=1)]
    rows += [list(row) for row in product(range(21), repeat=2)]
    rows += [list(row) for row in product((0, 1, 2, 4, 5, 9, 12, 19, 20), repeat=3)]
    rows += [list(row) for row in product((0, 1, 3, 6, 20), repeat=4)]
    rows += [list(row) for row in product((0, 1, 5, 8), repeat=5)]
    return [(row, Search(row)) for row in rows]


class InterfaceTest(unittest.TestCase):
    def test_names_and_arguments(self):
        for function in (alike, fewest_most, ends):
            with self.subTest(function=function.__name__):
                self.assertEqual(list(inspect.signature(function).parameters), ["row"])
                self.assertEqual(function.__module__, ends_file.__name__)

    def test_arguments_by_name(self):
        self.assertEqual(alike(row=[0, 2]).evenings, [(0, 1)])
        self.assertEqual(fewest_most(row=[0, 2]), (1, 1))
        self.assertEqual(ends(row=[0, 2]), [[1, 1]])


class AlikeTest(unittest.TestCase):
    def alike_by(self, row, pairs):
        told = alike(row)
        self.assertIs(type(told), Alike)
        self.assertEqual(told.evenings, pairs)

    def test_ordinary(self):
        self.alike_by([0, 1, 2], [(0, 2)])
        self.alike_by([2, 0], [(0, 1)])
        self.alike_by([7, 6, 7, 7, 8], [(1, 4)])
        two = alike([0, 0, 4, 4])
        self.assertIs(type(two), Alike)
        self.assertEqual(len(two.evenings), 2)
        self.assertIs(two.shows([0, 0, 4, 4]), True)

    def test_more_than_two_evenings(self):
        for row, few in (([0, 0, 0, 8], 3), ([16, 0, 0, 0], 3), ([20, 0, 1, 0, 4], 6),
                         ([0, 6, 19, 0, 0], 12)):
            told = alike(row)
            self.assertIs(type(told), Alike)
            self.assertEqual(len(told.evenings), few)
            self.assertIs(told.shows(row), True)

    def test_never(self):
        for row in ([0, 0, 3], [0, 1], [0, 0, 2], [0, 4, 6], [20, 19], [0, 0, 0, 0, 5],
                    [0, 0, 12, 20, 20]):
            with self.subTest(row=row):
                self.assertIs(type(alike(row)), Never)

    def test_alike_already(self):
        for row in ([0], [1], [20], [0, 0], [3, 3, 3], [20] * 5):
            self.alike_by(row, [])

    def test_never_both_and_as_few_as_can_be(self):
        for row, search in searched():
            few = search.fewest_to_alike
            told = alike(row)
            if few is None:
                self.assertIs(type(told), Never, row)
                self.assertFalse(hasattr(told, "evenings"))
            else:
                self.assertIs(type(told), Alike, row)
                self.assertEqual(len(told.evenings), few, row)
            self.assertIs(Never().shows(row), few is None, row)
            self.assertIs(Alike([]).shows(row), few == 0, row)
            self.assertIs(told.shows(row), True, row)

    def test_the_evenings_can_be_one_behind_another(self):
        for row, _ in searched():
            told = alike(row)
            if isinstance(told, Alike):
                behind = row
                for evening in told.evenings:
                    behind = evened(behind, evening)
                self.assertEqual(len(set(behind)), 1, row)

    def test_kinds(self):
        told = alike([0, 0, 4, 4]).evenings
        self.assertIs(type(told), list)
        for pair in told:
            self.assertIs(type(pair), tuple)
            self.assertEqual([type(place) for place in pair], [int, int])


class FewestMostTest(unittest.TestCase):
    def test_ordinary(self):
        self.assertEqual(fewest_most([0, 1, 2]), (1, 1))
        self.assertEqual(fewest_most([0, 4, 6]), (1, 3))
        self.assertEqual(fewest_most([6, 0, 4]), (1, 3))
        self.assertEqual(fewest_most([0, 0, 4, 4]), (2, 5))
        self.assertEqual(fewest_most([0, 0, 12, 20, 20]), (3, 24))

    def test_settled_rows(self):
        for row in ([0], [20], [3, 3], [0, 1], [1, 0], [0, 0, 3], [20, 19, 20, 19, 19], [5] * 5):
            with self.subTest(row=row):
                self.assertEqual(fewest_most(row), (0, 0))

    def test_kinds(self):
        for row in ([0], [0, 4, 6], [0, 1]):
            told = fewest_most(row)
            self.assertIs(type(told), tuple)
            self.assertEqual([type(number) for number in told], [int, int])

    def test_against_the_search(self):
        for row, wanted in searched():
            self.assertEqual(fewest_most(row), (wanted.fewest, wanted.most), row)

    def test_the_wide_rows(self):
        for row in WIDE:
            wanted = Search(row)
            self.assertEqual(fewest_most(row), (wanted.fewest, wanted.most), row)


class EndsTest(unittest.TestCase):
    def test_ordinary(self):
        self.assertEqual(ends([0, 2]), [[1, 1]])
        self.assertEqual(ends([0, 1, 2]), [[1, 1, 1]])
        self.assertEqual(ends([0, 4, 6]), [[0, 5, 5], [3, 3, 4], [3, 4, 3], [4, 3, 3]])
        self.assertEqual(ends([6, 4, 0]), [[3, 3, 4], [3, 4, 3], [4, 3, 3], [5, 5, 0]])

    def test_settled_rows(self):
        for row in ([0], [20], [0, 0, 3], [3, 0, 3], [1, 0], [5] * 5, [20, 19, 20, 19, 19]):
            with self.subTest(row=row):
                self.assertEqual(ends(row), [row])

    def test_numbers_of_one_and_of_two_figures_in_order(self):
        # As texts, "10" would stand before "9".
        self.assertEqual(ends([0, 12, 20]), Search([0, 12, 20]).ends)
        self.assertEqual(ends([0, 0, 12, 20, 20])[:3],
                         [[0, 13, 13, 13, 13], [8, 11, 11, 11, 11], [9, 9, 9, 9, 16]])

    def test_each_once_in_order(self):
        for row in WIDE:
            told = ends(row)
            for before, behind in zip(told, told[1:]):
                self.assertLess(before, behind)

    def test_kinds(self):
        for row in ([3], [0, 4, 6]):
            told = ends(row)
            self.assertIs(type(told), list)
            for one in told:
                self.assertIs(type(one), list)
                self.assertEqual([type(number) for number in one], [int] * len(row))

    def test_against_the_search(self):
        for row, search in searched():
            told = ends(row)
            self.assertEqual(told, search.ends, row)
            self.assertTrue(all(settled(one) for one in told))

    def test_the_wide_rows(self):
        for row in WIDE:
            self.assertEqual(ends(row), Search(row).ends, row)


class ReckonedOnceTest(unittest.TestCase):
    def test_wide_rows_in_a_short_time(self):
        # Way by way none of these calls would come to its end, so they run where they can be
        # stopped. Each takes about a tenth of a second.
        calls = ["from evenglasses.answers import Never",
                 "from evenglasses.ends import alike, ends, fewest_most"]
        for row in WIDE:
            calls += [f"{call}({row})" for call in ("alike", "fewest_most", "ends", "Never().shows")]
        done = subprocess.run([sys.executable, "-B", "-c", "\n".join(calls)], cwd=TOP, timeout=60)
        self.assertEqual(done.returncode, 0)


if __name__ == "__main__":
    unittest.main()
