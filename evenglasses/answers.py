"""The answers to whether all numbers of a small row can be made alike."""

from evenglasses.reach import reach, sorted_steps
from evenglasses.rows import are_alike, can_be, row_behind


class Answer:
    """What is told of a row: that all its numbers can be made alike, or that they cannot."""


class Never(Answer):
    """No evenings make all numbers alike."""

    def shows(self, row):
        """Whether no evenings, one behind another, make all numbers of the row alike."""
        found = reach(sorted(row), sorted_steps)
        return not any([are_alike(one) for one in found])


class Alike(Answer):
    """Evenings, one behind another, behind which all numbers are alike."""

    def __init__(self, evenings):
        # The caller may go on to change the list that was handed in.
        self.evenings = list(evenings)

    def shows(self, row):
        """Whether the evenings can be in the row, one behind another, and make all alike."""
        behind = row
        for evening in self.evenings:
            if not can_be(behind, evening):
                return False
            behind = row_behind(behind, evening)
        return are_alike(behind)
