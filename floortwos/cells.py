"""Cells of the grid, their colours and neighbours, and tiles of two cells."""

from floortwos.errors import NoTile


def is_whole(thing):
    """Whether the thing is a whole number; Python counts True and False among the ints, the document does not."""
    return isinstance(thing, int) and not isinstance(thing, bool)


def is_cell(thing):
    """Whether the thing, of any kind, is a cell."""
    return isinstance(thing, tuple) and len(thing) == 2 and is_whole(thing[0]) and is_whole(thing[1])


def is_dark(cell):
    """Whether the cell is dark; else it is light."""
    row, column = cell
    return (row + column) % 2 == 0


def beside(cell):
    """The four neighbours of the cell, sorted."""
    row, column = cell
    return [(row - 1, column), (row, column - 1), (row, column + 1), (row + 1, column)]


def tile_of(one, other):
    """The tile of two neighbouring cells, handed in in either order."""
    if other not in beside(one):
        raise NoTile("the two cells are no neighbours")
    return (min(one, other), max(one, other))


def is_tile(thing):
    """Whether the thing, of any kind, is a tile."""
    if not (isinstance(thing, tuple) and len(thing) == 2 and is_cell(thing[0]) and is_cell(thing[1])):
        return False
    one, other = thing
    return one < other and other in beside(one)


def is_level(tile):
    """Whether both cells of the tile have one row; else it is upright."""
    one, other = tile
    return one[0] == other[0]
