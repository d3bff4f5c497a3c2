"""The refusals: BadRow and BadEvening, and which of them comes first."""

import unittest

from evenglasses.ends import alike, ends, fewest_most
from evenglasses.errors import BadEvening, BadRow
from evenglasses.rows import evened, evenings, fall, settled

MOST = 1000000
SMALL_ROW_CALLS = (alike, fewest_most, ends)
# Too long for Python to write it out as a decimal number.
HUGE = 10 ** 5000


class Hostile:
    """An object that no comparison, test or measure may touch."""

    def fail(self, *_):
        raise RuntimeError("touched")

    __eq__ = __ne__ = __lt__ = __le__ = __gt__ = __ge__ = fail
    __len__ = __bool__ = __iter__ = __index__ = __int__ = __hash__ = fail
    __add__ = __radd__ = __mod__ = __getitem__ = __contains__ = fail
    __repr__ = __str__ = fail


def strange_values():
    """Values that are no number, no list and no tuple."""
    return [None, True, False, "", "0", "02", "zero", b"", b"\x00\x02", bytearray(b"\x00\x02"),
            {}, {0: 0, 1: 2}, {0, 2}, frozenset([0, 2]), range(2), iter([0, 2]), object(),
            Hostile(), len, list, int, lambda: [0, 2], NotImplemented, ...]


def no_numbers():
    return strange_values() + [[], [2], (), (2,), (0, 2), [[0, 2]]]


def no_measures():
    return no_numbers() + [-1, -2, -MOST, MOST + 1, MOST + 2, 2 * MOST, HUGE, -HUGE]


def no_rows():
    """What is no row as a whole, then rows that one of their members spoils."""
    itself = [0, 2]
    itself.append(itself)
    rows = strange_values() + [0, 2, -1, HUGE, (), (0,), (0, 2), ((0, 2),), [], itself,
                               [0, 2] * 6 + [0], [0] * 13, [0] * 24, [2] * 100000,
                               [True] * 13, [[0, 2]], [[0], [2]], [()]]
    for bad in no_measures():
        rows.append([bad])
        for place in range(3):
            rows.append([0, 2][:place] + [bad] + [0, 2][place:])
        rows.append([bad] + [0, 2] * 5 + [2])
        rows.append([0, 2] * 5 + [2] + [bad])
    return rows


def rows_not_small():
    """Rows that are no small rows: too many numbers, or one that is too great."""
    rows = [[0] * 6, [20] * 6, [0, 2, 4, 6, 8, 10], [3] * 7, [0] * 12, [MOST] * 12,
            [21], [22], [MOST], [21] * 5, [21] * 6, [0, 21], [20, 22], list(range(17, 22))]
    for great in (21, 22, 100, MOST):
        for place in range(5):
            rows.append([0, 2, 20, 2][:place] + [great] + [0, 2, 20, 2][place:])
    return rows


class BadRowTest(unittest.TestCase):
    def refuse(self, call):
        for at, row in enumerate(no_rows()):
            with self.subTest(at=at), self.assertRaises(BadRow):
                call(row)

    def test_evenings(self):
        self.refuse(evenings)

    def test_settled(self):
        self.refuse(settled)

    def test_evened(self):
        self.refuse(lambda row: evened(row, (0, 1)))

    def test_fall(self):
        self.refuse(lambda row: fall(row, (0, 1)))


class BadSmallRowTest(unittest.TestCase):
    def refuse_each(self, several):
        for function in SMALL_ROW_CALLS:
            for at, row in enumerate(several):
                with self.subTest(function=function.__name__, at=at), self.assertRaises(BadRow):
                    function(row)

    def test_no_rows(self):
        self.refuse_each(no_rows())

    def test_rows_that_are_not_small(self):
        self.refuse_each(rows_not_small())

    def test_one_member_of_five_spoils_it(self):
        several = []
        for bad in no_measures():
            for place in range(5):
                several.append([0, 2, 20, 2][:place] + [bad] + [0, 2, 20, 2][place:])
        self.refuse_each(several)

    def test_one_member_of_one_or_two_spoils_it(self):
        for bad in no_measures():
            self.refuse_each([[bad], [bad, 0], [0, bad]])

    def test_rows_that_are_not_small_are_allowed_elsewhere(self):
        for row in rows_not_small():
            with self.subTest(row=row):
                pairs = evenings(row)
                self.assertIs(settled(row), pairs == [])
                for pair in pairs:
                    self.assertEqual(len(evened(row, pair)), len(row))
                    self.assertGreater(fall(row, pair), 0)

    def test_what_is_just_within_is_not_refused(self):
        for row in ([0], [20], [0] * 5, [20] * 5, [0, 20], [20, 0, 20, 0, 20], [1, 19],
                    [16, 17, 18, 19, 20], [0, 0, 0, 0, 20], [20, 0, 0, 0, 0]):
            for function in SMALL_ROW_CALLS:
                with self.subTest(function=function.__name__, row=row):
                    function(row)


class BadEveningTest(unittest.TestCase):
    def refuse(self, row, evening):
        for function in (evened, fall):
            with self.assertRaises(BadEvening):
                function(row, evening)

    def refuse_each(self, row, several):
        for at, evening in enumerate(several):
            with self.subTest(at=at):
                self.refuse(row, evening)

    def test_no_pair(self):
        self.refuse_each([0, 2, 4], strange_values() + [
            0, 1, -1, HUGE, [], [0, 1], [0, 1, 2], [(0, 1)], (), (0,), (1,), (0, 1, 2), (0, 1, None),
            ((0, 1),), ((0, 1), (1, 2))])

    def test_a_pair_of_no_numbers(self):
        for bad in no_numbers():
            self.refuse_each([0, 2, 4], [(bad, 1), (0, bad), (bad, bad)])

    def test_true_and_false_are_no_places(self):
        self.refuse_each([0, 2, 4], [(False, True), (False, 1), (0, True), (True, 2), (False, 2)])

    def test_the_wrong_order(self):
        self.refuse_each([0, 2, 4], [(1, 0), (2, 0), (2, 1)])

    def test_the_same_place(self):
        self.refuse_each([0, 2, 4], [(0, 0), (1, 1), (2, 2)])

    def test_below_0(self):
        self.refuse_each([0, 2, 4], [(-1, 0), (-1, 1), (-3, 1), (-3, -1), (-2, -1), (0, -1),
                                     (-HUGE, 1)])

    def test_beyond_the_row(self):
        self.refuse_each([0, 2, 4], [(0, 3), (2, 3), (3, 4), (1, 100), (0, HUGE), (HUGE, HUGE + 1)])
        self.refuse_each([0, 2] * 6, [(0, 12), (1, 12), (11, 12), (12, 13)])
        self.refuse([0], (0, 1))
        self.refuse([0], (0, 0))

    def test_like_numbers(self):
        self.refuse([4, 4], (0, 1))
        self.refuse([5, 0, 5], (0, 2))
        self.refuse([0, 0], (0, 1))
        self.refuse([MOST, MOST], (0, 1))
        self.refuse([1, 3] + [7] * 10, (2, 11))

    def test_an_odd_sum(self):
        self.refuse([0, 1], (0, 1))
        self.refuse([4, 2, 7], (1, 2))
        self.refuse([7, 2, 4], (0, 1))
        self.refuse([MOST, MOST - 1], (0, 1))
        self.refuse([0, 2] + [7] * 10, (1, 11))


class OrderTest(unittest.TestCase):
    def test_bad_row_first_where_both_are_wrong(self):
        evenings_too = [None, (), (0,), [0, 1], (1, 0), (0, 0), (False, True), (-1, 0), (0, 99),
                        "01", Hostile(), (Hostile(), 1)]
        for function in (evened, fall):
            for at, row in enumerate(no_rows()):
                for evening_at, evening in enumerate(evenings_too):
                    with self.subTest(function=function.__name__, at=at, evening_at=evening_at):
                        with self.assertRaises(BadRow):
                            function(row, evening)

    def test_bad_evening_behind_a_row_within_the_limits(self):
        for row in ([0], [MOST], [0] * 12, [MOST] * 12):
            for function in (evened, fall):
                with self.assertRaises(BadEvening):
                    function(row, None)


class FiveAndTwelveTest(unittest.TestCase):
    def test_rows_of_five(self):
        for last, allowed in ((20, True), (21, False), (MOST, False)):
            row = [0, 2, 4, 20, last]
            self.assertEqual(evenings(row)[0], (0, 1))
            self.assertEqual(evened(row, (0, 1)), [1, 1, 4, 20, last])
            for function in SMALL_ROW_CALLS:
                if allowed:
                    function(row)
                else:
                    self.assertRaises(BadRow, function, row)
        for call in (evenings, settled) + SMALL_ROW_CALLS:
            self.assertRaises(BadRow, call, [0, 2, 4, 20, MOST + 1])

    def test_rows_of_twelve(self):
        row = [0, 20] * 6
        self.assertEqual(len(evenings(row)), 36)
        self.assertEqual(fall(row, (0, 11)), 200)
        for function in SMALL_ROW_CALLS:
            self.assertRaises(BadRow, function, row)
        for call in (evenings, settled) + SMALL_ROW_CALLS:
            self.assertRaises(BadRow, call, row + [0])

    def test_bad_evening_at_a_row_of_five_and_of_twelve(self):
        for row in ([0, 2, 4, 20, 21], [0, 20] * 6):
            for function in (evened, fall):
                self.assertRaises(BadEvening, function, row, (0, len(row)))
                self.assertRaises(BadRow, function, row + [MOST + 1], (0, len(row) + 1))


class WithinTheLimitsTest(unittest.TestCase):
    def test_rows_are_not_refused(self):
        for row in ([0], [1], [MOST - 1], [MOST], [0] * 12, [MOST] * 12, [0, MOST],
                    [0] * 11 + [1], [MOST] + [0] * 11, [0] * 11 + [MOST]):
            with self.subTest(row=row):
                evenings(row)
                settled(row)

    def test_evenings_at_the_first_and_the_last_places_are_not_refused(self):
        row = [0] + [4] * 10 + [MOST]
        for evening in ((0, 1), (0, 11), (10, 11)):
            with self.subTest(evening=evening):
                evened(row, evening)
                fall(row, evening)


if __name__ == "__main__":
    unittest.main()
