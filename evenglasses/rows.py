"""Rows of glasses: what can be evened in them, and what an evening does."""

from evenglasses.errors import BadEvening, BadRow

MOST_GLASSES = 12
MOST_MEASURES = 1000000
MOST_SMALL_GLASSES = 5
MOST_SMALL_MEASURES = 20


def is_number(value):
    """Whether the value is a whole number."""
    # True and False are integers to Python, but no numbers to the program.
    return isinstance(value, int) and not isinstance(value, bool)


def is_measure(value):
    """Whether so much can be in a glass."""
    return is_number(value) and 0 <= value <= MOST_MEASURES


def is_row(value):
    """Whether the value is a row."""
    if not isinstance(value, list):
        return False
    # The length comes first, so that a far too long list is not gone through.
    if not 1 <= len(value) <= MOST_GLASSES:
        return False
    return all([is_measure(amount) for amount in value])


def is_small_row(value):
    """Whether the value is a small row."""
    if not is_row(value) or len(value) > MOST_SMALL_GLASSES:
        return False
    return all([amount <= MOST_SMALL_MEASURES for amount in value])


def are_places(row, value):
    """Whether the value is a pair of places of the row, the lesser first."""
    if not isinstance(value, tuple) or len(value) != 2:
        return False
    first, second = value
    if not is_number(first) or not is_number(second):
        return False
    return 0 <= first < second < len(row)


def can_even(one, other):
    """Whether two glasses with so much in them can be evened."""
    return one != other and (one + other) % 2 == 0


def can_be(row, value):
    """Whether the value is an evening that can be in the row."""
    if not are_places(row, value):
        return False
    first, second = value
    return can_even(row[first], row[second])


def are_alike(row):
    """Whether all numbers of the row are alike."""
    return all([amount == row[0] for amount in row])


def refuse_no_row(row):
    """Raise BadRow for what is no row."""
    # No message shows the value: Python cannot write out every number.
    if not is_row(row):
        raise BadRow("a row is a list of 1 to 12 numbers from 0 to 1000000")


def refuse_no_small_row(row):
    """Raise BadRow for what is no small row."""
    if not is_small_row(row):
        raise BadRow("a small row is a list of 1 to 5 numbers from 0 to 20")


def refuse_no_evening(row, evening):
    """Raise BadEvening for what is no evening that can be in the row."""
    if not can_be(row, evening):
        raise BadEvening("an evening is a pair of places whose numbers are unlike and of an even sum")


def pairs_to_even(row):
    """All evenings that can be in the row, in order; the row is not checked."""
    many = len(row)
    return [
        (first, second)
        for first in range(many)
        for second in range(first + 1, many)
        if can_even(row[first], row[second])
    ]


def row_behind(row, evening):
    """The row that stands behind the evening, as a new list; neither is checked."""
    first, second = evening
    half = (row[first] + row[second]) // 2
    behind = list(row)
    behind[first] = half
    behind[second] = half
    return behind


def evenings(row):
    """All evenings that can be in the row, in order."""
    refuse_no_row(row)
    return pairs_to_even(row)


def evened(row, evening):
    """The row that stands behind the evening."""
    refuse_no_row(row)
    refuse_no_evening(row, evening)
    return row_behind(row, evening)


def settled(row):
    """Whether no evening can be in the row."""
    return len(evenings(row)) == 0


def fall(row, evening):
    """How much the squares of all numbers together fall by the evening."""
    refuse_no_row(row)
    refuse_no_evening(row, evening)
    first, second = evening
    gap = row[second] - row[first]
    # The other squares stay, and a * a + b * b falls to 2 * h * h, where h is
    # half of a + b: that is by half of the square of the gap, which is even.
    return gap * gap // 2
