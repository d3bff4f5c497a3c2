"""Points 2 and 3: the evenings of a row, the row behind one, settled rows, the fall."""

import inspect
import unittest
from itertools import combinations, product

from evenglasses import rows
from evenglasses.rows import evened, evenings, fall, settled

MOST = 1000000


def small_rows():
    """All rows of up to four numbers from 0 to 4."""
    for many in range(1, 5):
        for numbers in product(range(5), repeat=many):
            yield list(numbers)


def sum_of_squares(row):
    return sum(number ** 2 for number in row)


class InterfaceTest(unittest.TestCase):
    def test_names_and_arguments(self):
        told = {evenings: ["row"], settled: ["row"],
                evened: ["row", "evening"], fall: ["row", "evening"]}
        for function, names in told.items():
            with self.subTest(function=function.__name__):
                self.assertEqual(list(inspect.signature(function).parameters), names)
                self.assertEqual(function.__module__, rows.__name__)

    def test_arguments_by_name(self):
        self.assertEqual(evenings(row=[0, 2]), [(0, 1)])
        self.assertEqual(evened(row=[0, 2], evening=(0, 1)), [1, 1])
        self.assertIs(settled(row=[0, 2]), False)
        self.assertEqual(fall(row=[0, 2], evening=(0, 1)), 2)


class EveningsTest(unittest.TestCase):
    def test_ordinary(self):
        self.assertEqual(evenings([1, 3, 4]), [(0, 1)])
        self.assertEqual(evenings([4, 1, 3]), [(1, 2)])
        self.assertEqual(evenings([7, 2, 3, 2, 8]), [(0, 2), (1, 4), (3, 4)])

    def test_the_lesser_place_first_whatever_the_numbers(self):
        self.assertEqual(evenings([3, 1]), [(0, 1)])
        self.assertEqual(evenings([1, 3]), [(0, 1)])

    def test_in_order(self):
        self.assertEqual(evenings([6, 4, 2, 0]),
                         [(0, 1), (0, 2), (0, 3), (1, 2), (1, 3), (2, 3)])

    def test_none_can_be(self):
        for row in ([1, 2], [2, 1], [4, 4], [3, 4, 3, 4], [0, MOST - 1]):
            with self.subTest(row=row):
                self.assertEqual(evenings(row), [])

    def test_one_number(self):
        for number in (0, 1, 2, MOST):
            self.assertEqual(evenings([number]), [])

    def test_twelve_numbers(self):
        told = evenings(list(range(12)))
        self.assertEqual(told, [pair for pair in combinations(range(12), 2)
                                if (pair[1] - pair[0]) % 2 == 0])
        self.assertEqual(len(told), 30)
        self.assertEqual(evenings([0] * 11 + [2]), [(place, 11) for place in range(11)])

    def test_twelve_equal_numbers(self):
        for number in (0, 7, MOST):
            self.assertEqual(evenings([number] * 12), [])

    def test_least_and_greatest_number(self):
        self.assertEqual(evenings([0, MOST]), [(0, 1)])
        self.assertEqual(evenings([MOST, 0, MOST - 1, 1]), [(0, 1), (2, 3)])

    def test_kinds(self):
        told = evenings([0, 2, 4])
        self.assertIs(type(told), list)
        for pair in told:
            self.assertIs(type(pair), tuple)
            self.assertEqual([type(place) for place in pair], [int, int])

    def test_all_small_rows(self):
        for row in small_rows():
            wanted = []
            for first, second in combinations(range(len(row)), 2):
                numbers = (row[first], row[second])
                if numbers[0] != numbers[1] and sum(numbers) % 2 == 0:
                    wanted.append((first, second))
            self.assertEqual(evenings(row), wanted, row)


class EvenedTest(unittest.TestCase):
    def test_ordinary(self):
        self.assertEqual(evened([1, 3, 4], (0, 1)), [2, 2, 4])
        self.assertEqual(evened([9, 2, 4, 3], (0, 3)), [6, 2, 4, 6])
        self.assertEqual(evened([9, 8, 4, 3], (1, 2)), [9, 6, 6, 3])

    def test_the_half_may_be_odd(self):
        self.assertEqual(evened([0, 2], (0, 1)), [1, 1])
        self.assertEqual(evened([5, 1], (0, 1)), [3, 3])

    def test_least_and_greatest_number(self):
        self.assertEqual(evened([MOST, 5, 0], (0, 2)), [500000, 5, 500000])
        self.assertEqual(evened([MOST, MOST - 2], (0, 1)), [MOST - 1, MOST - 1])
        self.assertEqual(evened([1, MOST - 1], (0, 1)), [500000, 500000])

    def test_twelve_numbers(self):
        self.assertEqual(evened(list(range(12)), (9, 11)),
                         [0, 1, 2, 3, 4, 5, 6, 7, 8, 10, 10, 10])
        self.assertEqual(evened([8] + [3] * 10 + [2], (0, 11)), [5] + [3] * 10 + [5])

    def test_kinds(self):
        told = evened([0, 2, 5], (0, 1))
        self.assertIs(type(told), list)
        self.assertEqual([type(number) for number in told], [int, int, int])

    def test_all_small_rows(self):
        for row in small_rows():
            for first, second in evenings(row):
                behind = evened(row, (first, second))
                self.assertEqual(behind[first], behind[second])
                self.assertEqual(2 * behind[first], row[first] + row[second])
                for place in range(len(row)):
                    if place not in (first, second):
                        self.assertEqual(behind[place], row[place])
                self.assertEqual(len(behind), len(row))


class SettledTest(unittest.TestCase):
    def test_settled(self):
        for row in ([0], [1], [MOST], [5, 5], [1, 2], [2, 1], [4, 7, 4, 7, 7],
                    [0, MOST - 1], [3] * 12, [3] * 11 + [MOST]):
            with self.subTest(row=row):
                self.assertIs(settled(row), True)

    def test_not_settled(self):
        for row in ([0, 2], [1, 3], [3, 1], [1, 2, 3], [1, 2, 4], [0, MOST],
                    [3] * 11 + [5], [8] + [6] * 11, list(range(12))):
            with self.subTest(row=row):
                self.assertIs(settled(row), False)

    def test_just_then_at_most_two_unlike_numbers_one_even_one_odd(self):
        for row in small_rows():
            unlike = sorted(set(row))
            few = len(unlike) == 1 or (
                len(unlike) == 2 and sorted(number % 2 for number in unlike) == [0, 1])
            self.assertIs(settled(row), few, row)
            self.assertIs(settled(row), evenings(row) == [], row)


class FallTest(unittest.TestCase):
    def test_ordinary(self):
        self.assertEqual(fall([0, 2], (0, 1)), 2)
        self.assertEqual(fall([1, 3, 4], (0, 1)), 2)
        self.assertEqual(fall([9, 2, 4, 3], (0, 3)), 18)
        self.assertEqual(fall([3, 4, 9], (0, 2)), 18)

    def test_least_and_greatest_number(self):
        self.assertEqual(fall([0, MOST], (0, 1)), 500000000000)
        self.assertEqual(fall([MOST, 0], (0, 1)), 500000000000)
        self.assertEqual(fall([MOST] + [7] * 10 + [MOST - 2], (0, 11)), 2)

    def test_kind(self):
        self.assertIs(type(fall([0, 2], (0, 1))), int)

    def test_all_small_rows(self):
        for row in small_rows():
            for evening in evenings(row):
                behind = evened(row, evening)
                told = fall(row, evening)
                self.assertEqual(told, sum_of_squares(row) - sum_of_squares(behind))
                self.assertGreater(told, 0)


if __name__ == "__main__":
    unittest.main()
