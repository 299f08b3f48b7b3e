"""Heights of a laying at the corners of its floor, the laying that has given heights, and turns upward."""

from floortwos.cells import is_whole
from floortwos.errors import NoHeights, NoTurn
from floortwos.floors import cells_at, check_no_holes, corners_of, is_inner, parts_of, sides_of
from floortwos.layings import check_laying, floor_of, has_both, is_turn, upright_pair


def is_even(corner):
    """Whether the corner's row and column added are even."""
    row, column = corner
    return (row + column) % 2 == 0


def plain_rise(one, other):
    """What the side rises by, from its one end to the other, where no tile lies across it."""
    upright = one[0] != other[0]
    return 1 if is_even(one) == upright else -1


def crossed_rise(one, other):
    """What the side rises by, from its one end to the other, where a tile lies across it."""
    return -3 * plain_rise(one, other)


def least_corners(floor):
    """The least corner of each part of the floor."""
    return [corners_of(part)[0] for part in parts_of(floor)]


def rises_under(floor, laying):
    """For each corner of the floor a list of tuples: the other end of a side at it, and what the way there rises by."""
    rises = {corner: [] for corner in corners_of(floor)}
    for side in sides_of(floor):
        one, other = side
        rise = crossed_rise(one, other) if cells_at(side) in laying else plain_rise(one, other)
        rises[one].append((other, rise))
        rises[other].append((one, -rise))
    return rises


def heights_of(laying):
    """The heights of the laying, in the order of its floor's corners."""
    floor = floor_of(laying)
    check_no_holes(floor)
    rises = rises_under(floor, laying)
    waiting = least_corners(floor)
    heights = {corner: 0 for corner in waiting}
    # Without holes all ways to a corner rise by the same, so whichever comes there first is as good as all others.
    while waiting:
        corner = waiting.pop()
        for other, rise in rises[corner]:
            if other not in heights:
                heights[other] = heights[corner] + rise
                waiting.append(other)
    return [heights[corner] for corner in corners_of(floor)]


def tiles_across(floor, heights):
    """The tiles that lie across the sides, sorted, as the dict of heights asks; a rise by no rule is refused."""
    tiles = []
    for side in sides_of(floor):
        one, other = side
        rise = heights[other] - heights[one]
        if rise == crossed_rise(one, other) and is_inner(floor, side):
            tiles.append(cells_at(side))
        elif rise != plain_rise(one, other):
            raise NoHeights("a side rises by no rule")
    return sorted(tiles)


def laying_of(floor, heights):
    """The laying of the floor that has these heights."""
    check_no_holes(floor)
    corners = corners_of(floor)
    if len(heights) != len(corners) or not all([is_whole(height) for height in heights]):
        raise NoHeights("not one whole number for each corner of the floor")
    height_at = dict(zip(corners, heights))
    if any([height_at[corner] != 0 for corner in least_corners(floor)]):
        raise NoHeights("a part's least corner has another height than 0")
    # Round a cell the rises come to 0 just where one of its four sides has a tile across: so this is a laying.
    return tiles_across(floor, height_at)


def is_upward(laying, corner):
    """Whether the turn of the laying at the corner is one upward."""
    check_laying(laying)
    if not is_turn(laying, corner):
        raise NoTurn("the corner is no turn of the laying")
    return is_even(corner) == has_both(laying, upright_pair(corner))
