"""The highest and the lowest laying of a floor, or a closed way of corners that shows that it has none."""

from floortwos.floors import check_no_holes, corners_of, is_inner, sides_of
from floortwos.heights import crossed_rise, laying_of, least_corners, plain_rise


def greatest_rise(floor, side, one, other):
    """The greatest rise of a side of the floor, from its one end to the other."""
    plain = plain_rise(one, other)
    return max(plain, crossed_rise(one, other)) if is_inner(floor, side) else plain


def steps_on(floor):
    """The steps along the sides of the floor, each both ways: tuples (from, to, greatest rise)."""
    steps = []
    for side in sides_of(floor):
        low, high = side
        steps.append((low, high, greatest_rise(floor, side, low, high)))
        steps.append((high, low, greatest_rise(floor, side, high, low)))
    return steps


def better_once(sums, came_from, steps):
    """Betters the sums by each step once; told is the corner that was bettered last, or None where none was."""
    last = None
    for one, other, rise in steps:
        if one in sums and (other not in sums or sums[one] + rise < sums[other]):
            sums[other] = sums[one] + rise
            came_from[other] = one
            last = other
    return last


def closed_behind(came_from, corner):
    """The closed way that one comes to from the corner, going back, told from step to step forward."""
    # A way back of as many steps as there are corners has met one twice: from there on it goes round.
    for count in range(len(came_from)):
        corner = came_from[corner]
    way = [corner]
    before = came_from[corner]
    while before != corner:
        way.append(before)
        before = came_from[before]
    return way[::-1]


def least_sums(starts, steps, many):
    """The least sums of rises by the steps from the starts, and None; or None, and a closed way of less than 0.

    Without such a closed way each least sum is that of a way on which none of the corners, which are so many, comes
    twice: then nothing is left to better when the sums have been gone through as often.
    """
    sums = {corner: 0 for corner in starts}
    came_from = {}
    for count in range(many + 1):
        last = better_once(sums, came_from, steps)
        if last is None:
            return (sums, None)
    return (None, closed_behind(came_from, last))


def highest(floor):
    """Either ("laid", the highest laying) or ("closed", corners)."""
    check_no_holes(floor)
    corners = corners_of(floor)
    sums, closed = least_sums(least_corners(floor), steps_on(floor), len(corners))
    if closed:
        return ("closed", closed)
    return ("laid", laying_of(floor, [sums[corner] for corner in corners]))


def lowest(floor):
    """Either ("laid", the lowest laying) or ("closed", corners)."""
    check_no_holes(floor)
    corners = corners_of(floor)
    # No corner lies deeper below its part's least one than the way from it up to that one can rise at the most.
    back = [(other, one, rise) for one, other, rise in steps_on(floor)]
    sums, closed = least_sums(least_corners(floor), back, len(corners))
    if closed:
        return ("closed", closed[::-1])
    return ("laid", laying_of(floor, [-sums[corner] for corner in corners]))
