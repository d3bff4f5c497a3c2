"""Point 4, the answers: their classes, their field, and what they show of a row."""

import inspect
import unittest

from evenglasses import answers
from evenglasses.answers import Alike, Answer, Never

# Too long for Python to write it out as a decimal number.
HUGE = 10 ** 5000
LONG_WAY = [(0, 2), (1, 2), (0, 3), (0, 1), (2, 3)]


class InterfaceTest(unittest.TestCase):
    def test_which_stands_under_which(self):
        self.assertEqual(Answer.__bases__, (object,))
        self.assertEqual(Never.__bases__, (Answer,))
        self.assertEqual(Alike.__bases__, (Answer,))

    def test_defined_in_their_file(self):
        for kind in (Answer, Never, Alike):
            self.assertEqual(kind.__module__, answers.__name__)

    def test_shows_is_defined_in_each_class_itself(self):
        for kind in (Never, Alike):
            self.assertIn("shows", vars(kind))
            self.assertEqual(list(inspect.signature(kind.shows).parameters), ["self", "row"])

    def test_arguments(self):
        self.assertEqual(list(inspect.signature(Never).parameters), [])
        self.assertEqual(list(inspect.signature(Alike).parameters), ["evenings"])
        self.assertIs(Alike(evenings=[(0, 1)]).shows(row=[0, 2]), True)
        self.assertIs(Never().shows(row=[0, 2]), False)


class FieldTest(unittest.TestCase):
    def test_a_list_copied(self):
        handed_in = [(0, 2), (1, 3)]
        answer = Alike(handed_in)
        self.assertEqual(answer.evenings, [(0, 2), (1, 3)])
        self.assertIs(type(answer.evenings), list)
        self.assertIsNot(answer.evenings, handed_in)

    def test_the_list_handed_in_may_be_changed_behind(self):
        handed_in = [(0, 2), (1, 3)]
        answer = Alike(handed_in)
        handed_in.clear()
        self.assertEqual(answer.evenings, [(0, 2), (1, 3)])
        self.assertIs(answer.shows([0, 0, 4, 4]), True)

    def test_the_field_may_be_changed_and_the_list_handed_in_stays(self):
        handed_in = [(0, 2)]
        answer = Alike(handed_in)
        answer.evenings.append((1, 3))
        self.assertEqual(handed_in, [(0, 2)])

    def test_two_answers_share_no_list(self):
        handed_in = [(0, 1)]
        one, other = Alike(handed_in), Alike(handed_in)
        one.evenings.clear()
        self.assertEqual(other.evenings, [(0, 1)])

    def test_any_list_is_kept_as_it_is(self):
        for pairs in ([], [(1, 0)], [(-1, HUGE), (3, 3)], [(0, 1)] * 5000):
            self.assertEqual(Alike(pairs).evenings, pairs)


class AlikeShowsTest(unittest.TestCase):
    def shows(self, pairs, row, wanted):
        # The pairs are not shown: Python cannot write out every number.
        with self.subTest(many=len(pairs), row=row):
            self.assertIs(Alike(pairs).shows(row), wanted)

    def test_the_shortest(self):
        self.shows([(0, 2)], [0, 1, 2], True)
        self.shows([(0, 2), (1, 3)], [0, 0, 4, 4], True)
        self.shows([(0, 1)], [20, 0], True)
        self.shows([(1, 2), (3, 4)], [10, 0, 20, 19, 1], True)

    def test_a_longer_one(self):
        self.shows(LONG_WAY, [0, 0, 4, 4], True)

    def test_not_alike_behind(self):
        self.shows([(0, 1)], [0, 2, 5], False)
        self.shows([(0, 2)], [0, 0, 4, 4], False)
        self.shows(LONG_WAY[:-1], [0, 0, 4, 4], False)
        self.shows([(1, 2)], [6, 4, 8, 7], False)
        self.shows([(1, 2)], [7, 4, 8], False)

    def test_an_empty_list(self):
        for row in ([0], [20], [3, 3], [7] * 5):
            self.shows([], row, True)
        for row in ([0, 1], [0, 2], [3, 3, 3, 3, 4], [4, 3, 3, 3, 3], [3, 4, 3]):
            self.shows([], row, False)

    def test_an_evening_that_can_not_be_at_its_turn(self):
        # Each of them can be in the row, but not behind the one before it.
        self.shows([(0, 2), (0, 2)], [0, 1, 2], False)
        self.shows([(0, 2), (1, 3), (0, 2)], [0, 0, 4, 4], False)
        self.shows(LONG_WAY[::-1], [0, 0, 4, 4], False)
        self.shows([(0, 1), (0, 2), (1, 3)], [0, 0, 4, 4], False)
        self.shows([(0, 1)], [3, 3], False)
        self.shows([(0, 1), (0, 2)], [0, 1, 2], False)

    def test_an_odd_sum_is_not_evened(self):
        self.shows([(0, 1)], [3, 4], False)
        self.shows([(0, 1)], [4, 3], False)
        self.shows([(0, 1), (0, 2)], [0, 1, 2], False)
        self.shows([(1, 2)], [2, 2, 3], False)

    def test_the_wrong_order(self):
        self.shows([(2, 0)], [0, 1, 2], False)
        self.shows([(1, 0)], [0, 2], False)
        self.shows([(0, 2), (3, 1)], [0, 0, 4, 4], False)

    def test_the_same_place_twice(self):
        for place in range(3):
            self.shows([(place, place)], [1, 1, 1], False)
            self.shows([(place, place), (0, 2)], [0, 1, 2], False)
            self.shows([(0, 2), (place, place)], [0, 1, 2], False)

    def test_places_below_0(self):
        for pair in ((-3, -1), (-3, 2), (0, -1), (-1, 0), (-1, 2), (-2, 1), (-1, -1), (-HUGE, 2)):
            self.shows([pair], [0, 1, 2], False)
        self.shows([(0, 2), (-3, -1)], [0, 0, 4, 4], False)
        self.shows([(-1, 0)], [5], False)

    def test_places_beyond_the_row(self):
        for pair in ((0, 3), (1, 3), (2, 3), (3, 4), (0, 5), (0, HUGE), (HUGE, HUGE + 1), (HUGE, 0)):
            self.shows([pair], [0, 1, 2], False)
            self.shows([(0, 2), pair], [0, 1, 2], False)
        self.shows([(0, 1)], [5], False)
        self.shows([(4, 5)], [1] * 5, False)

    def test_no_pairs(self):
        for pair in ((), (0,), (2,), (0, 1, 2), (0, 2, 2), (0, 2, 0, 2)):
            self.shows([pair], [0, 1, 2], False)

    def test_true_and_false_are_no_places(self):
        for pair in ((False, True), (False, 1), (0, True)):
            self.shows([pair], [0, 2], False)

    def test_thousands_of_pairs(self):
        self.shows([(0, 2)] * 5000, [0, 1, 2], False)
        self.shows([(0, 2), (1, 3)] + [(0, 1)] * 100000, [0, 0, 4, 4], False)
        self.shows([(5, 3)] * 5000 + [(0, 2)], [0, 1, 2], False)
        self.shows([(place, place + 1) for place in range(5000)], [0, 2], False)
        self.shows([(place, place + 1) for place in range(-5000, 5000)], [3, 3], False)

    def test_other_rows_than_the_one_it_was_made_for(self):
        answer = Alike([(0, 2)])
        for row in ([0, 1, 2], [2, 1, 0], [4, 3, 2], [0, 10, 20], [20, 15, 10, 15, 15]):
            self.assertIs(answer.shows(row), True, row)
        for row in ([0, 2], [1, 0, 2], [0, 1, 3], [1, 1, 1], [0, 1, 2, 0], [0, 2, 2], [5]):
            self.assertIs(answer.shows(row), False, row)

    def test_by_the_field_as_it_stands_then(self):
        answer = Alike([(0, 2)])
        self.assertIs(answer.shows([0, 0, 4, 4]), False)
        answer.evenings.append((1, 3))
        self.assertIs(answer.shows([0, 0, 4, 4]), True)
        self.assertIs(answer.shows([0, 1, 2]), False)
        answer.evenings[1] = (1, 4)
        self.assertIs(answer.shows([0, 0, 4, 4]), False)
        answer.evenings.pop()
        self.assertIs(answer.shows([0, 1, 2]), True)
        answer.evenings = [(0, 1)]
        self.assertIs(answer.shows([0, 1, 2]), False)
        self.assertIs(answer.shows([0, 2]), True)
        answer.evenings.clear()
        self.assertIs(answer.shows([0, 2]), False)
        self.assertIs(answer.shows([2, 2]), True)

    def test_nothing_is_changed(self):
        for pairs, row in ((LONG_WAY, [0, 0, 4, 4]), ([(0, 2)], [0, 0, 4, 4]), ([(9, -9)], [1, 3])):
            answer = Alike(pairs)
            before = list(row)
            answer.shows(row)
            self.assertEqual(row, before)
            self.assertEqual(answer.evenings, pairs)
            self.assertIs(answer.shows(row), answer.shows(row))

    def test_somewhat_beyond_a_small_row(self):
        self.shows([(0, 1), (2, 3), (4, 5)], [0, 42, 20, 22, 21, 21], False)
        self.shows([(0, 1), (2, 3)], [0, 42, 20, 22, 21, 21], True)


class NeverShowsTest(unittest.TestCase):
    def test_never(self):
        for row in ([0, 1], [0, 0, 3], [0, 4, 6], [0, 0, 0, 0, 1], [20, 19], [0, 0, 2], [2, 0, 0],
                    [0, 0, 0, 0, 5], [20, 20, 20, 20, 15], [0, 0, 12, 20, 20]):
            with self.subTest(row=row):
                self.assertIs(Never().shows(row), True)

    def test_not_never(self):
        for row in ([0], [20], [5, 5], [7] * 5, [0, 2], [2, 0], [0, 1, 2], [1, 2, 0], [0, 0, 4, 4],
                    [4, 0, 4, 0], [10, 0, 20, 19, 1], [0, 20, 0, 20]):
            with self.subTest(row=row):
                self.assertIs(Never().shows(row), False)

    def test_one_answer_for_many_rows(self):
        answer = Never()
        told = [answer.shows(row) for row in ([0, 1], [0, 2], [0, 0, 3], [0, 1, 2], [0, 1])]
        self.assertEqual(told, [True, False, True, False, True])

    def test_the_row_is_not_changed(self):
        for row in ([4, 0, 4, 0], [6, 4, 0], [20, 0, 12, 20, 0]):
            before = list(row)
            Never().shows(row)
            self.assertEqual(row, before)

    def test_somewhat_beyond_a_small_row(self):
        self.assertIs(Never().shows([21, 23]), False)
        self.assertIs(Never().shows([0, 2, 0, 2, 0, 2]), False)
        self.assertIs(Never().shows([0, 0, 0, 0, 0, 3]), True)


if __name__ == "__main__":
    unittest.main()
