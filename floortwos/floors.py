"""Floors, their corners and sides, the parts that they fall into, and their holes."""

from floortwos.cells import is_cell
from floortwos.errors import Holed, NoFloor

MOST_CELLS = 64


def gathered(cells):
    """The floor of the cells in a list, in any order, some perhaps more than once."""
    # All are looked at ahead of the set: (True, 0) is no cell, but would be lost there beside the equal (1, 0).
    for thing in cells:
        if not is_cell(thing):
            raise NoFloor("a thing in the list is no cell")
    floor = sorted(set(cells))
    if len(floor) > MOST_CELLS:
        raise NoFloor(f"{len(floor)} different cells, more than {MOST_CELLS}")
    return floor


def cell_corners(cell):
    """The four corners of the cell, sorted."""
    row, column = cell
    return [(row, column), (row, column + 1), (row + 1, column), (row + 1, column + 1)]


def corners_of(floor):
    """The corners of the floor, each once, sorted."""
    return sorted({corner for cell in floor for corner in cell_corners(cell)})


def cell_sides(cell):
    """The four sides of the cell, sorted."""
    upper_left, upper_right, lower_left, lower_right = cell_corners(cell)
    return [
        (upper_left, upper_right),
        (upper_left, lower_left),
        (upper_right, lower_right),
        (lower_left, lower_right),
    ]


def sides_of(floor):
    """The sides of the floor, each once, sorted."""
    return sorted({side for cell in floor for side in cell_sides(cell)})


def cells_at(side):
    """The two cells at the side, the lesser first, whether they are a floor's or not."""
    one, other = side
    row, column = one
    if other[0] == row:
        return ((row - 1, column), one)
    return ((row, column - 1), one)


def is_inner(floor, side):
    """Whether both cells at a side of the floor are the floor's; else it is on the rim."""
    one, other = cells_at(side)
    return one in floor and other in floor


def touching(cell):
    """The cells that have a corner in common with the cell, itself among them."""
    row, column = cell
    return [(row + down, column + right) for down in (-1, 0, 1) for right in (-1, 0, 1)]


def part_with(floor, first):
    """The part of the floor that has the cell called first."""
    on_floor = set(floor)
    reached = {first}
    waiting = [first]
    while waiting:
        cell = waiting.pop()
        for near in touching(cell):
            if near in on_floor and near not in reached:
                reached.add(near)
                waiting.append(near)
    return sorted(reached)


def parts_of(floor):
    """The parts of the floor, in the order of their first cells."""
    placed = set()
    parts = []
    for first in floor:
        if first not in placed:
            part = part_with(floor, first)
            parts.append(part)
            for cell in part:
                placed.add(cell)
    return parts


def holes_in(floor):
    """How many holes the floor has."""
    return len(parts_of(floor)) - len(corners_of(floor)) + len(sides_of(floor)) - len(floor)


def check_no_holes(floor):
    """Refuses a floor with holes."""
    if holes_in(floor) != 0:
        raise Holed("the floor has holes")
