"""All rows that a row can come to, each reckoned once, and the ways between them."""

from evenglasses.rows import pairs_to_even, row_behind


def steps(row):
    """The evenings that can be in the row, in order, each with the row behind it."""
    return [(evening, tuple(row_behind(row, evening))) for evening in pairs_to_even(row)]


def sorted_steps(row):
    """The same, with each row behind put in order."""
    return [(evening, tuple(sorted(behind))) for evening, behind in steps(row)]


def reach(row, steps_of):
    """To each row that the row can come to, itself among them, its steps.

    The rows are tuples, so that they can be keys, and stand by the fewest evenings that
    they take. Where their places don't matter, they are in order (by sorted_steps): these
    are far fewer.
    """
    found = {}
    level = [tuple(row)]
    while level:
        following = []
        for one in level:
            # Many ways may lead to a row: only the first of them goes on from it.
            if one not in found:
                found[one] = steps_of(one)
                following.extend([behind for _, behind in found[one]])
        level = following
    return found


def shortest_way(found, goal):
    """As few evenings as can be from the first of the found rows to the goal."""
    came = {}
    # The found rows stand by their fewest evenings, so the first of them that leads to
    # another one lies on a shortest way to it.
    for one, ways in found.items():
        for evening, behind in ways:
            if behind not in came:
                came[behind] = (one, evening)
    back = []
    here = goal
    while here in came:
        here, evening = came[here]
        back.append(evening)
    back.reverse()
    return back
