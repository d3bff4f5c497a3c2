"""What a small row can come to: all numbers alike, and the rows in which no evening can be."""

from evenglasses.answers import Alike, Never
from evenglasses.reach import reach, shortest_way, sorted_steps, steps
from evenglasses.rows import are_alike, refuse_no_small_row


def alike(row):
    """The fewest evenings that make all numbers of the row alike, or that none do."""
    refuse_no_small_row(row)
    found = reach(row, steps)
    for one in found:
        if are_alike(one):
            return Alike(shortest_way(found, one))
    return Never()


def squares(row):
    """The squares of all numbers of the row together."""
    return sum([amount * amount for amount in row])


def one_more(pairs):
    """The fewest and the most evenings of a row, by those of all rows right behind it."""
    if len(pairs) == 0:
        return (0, 0)
    return (1 + min([fewest for fewest, _ in pairs]), 1 + max([most for _, most in pairs]))


def fewest_most(row):
    """The fewest and the most evenings behind which the row is settled."""
    refuse_no_small_row(row)
    start = tuple(sorted(row))
    found = reach(start, sorted_steps)
    told = {}
    # The squares fall by each evening: what stands behind a row is told before it.
    for one in sorted(found, key=squares):
        told[one] = one_more([told[behind] for _, behind in found[one]])
    return told[start]


def ends(row):
    """All settled rows that the row can come to, in order."""
    refuse_no_small_row(row)
    found = reach(row, steps)
    return [list(one) for one in sorted(found) if len(found[one]) == 0]
