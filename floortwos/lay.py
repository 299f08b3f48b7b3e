"""A laying of a floor, or cells of one colour that have too few neighbours for one."""

from floortwos.cells import beside


def neighbours_on(floor):
    """For each cell of the floor the list of its neighbours on the floor."""
    near = {cell: [] for cell in floor}
    for cell in floor:
        near[cell] = [other for other in beside(cell) if other in near]
    return near


def search_from(near, partner, first):
    """Goes from a cell without a tile, by neighbours, into tiles and out of them, to another cell without one.

    Told is that other cell, or None where none is come to, and for each cell that was come to by a neighbour's
    step the neighbour.
    """
    came_from = {}
    waiting = [first]
    while waiting:
        cell = waiting.pop()
        for other in near[cell]:
            if other not in came_from:
                came_from[other] = cell
                if other not in partner:
                    return (other, came_from)
                waiting.append(partner[other])
    return (None, came_from)


def lay_along(partner, came_from, end):
    """Lays the tiles anew on the way back from the end to the first cell, which had no tile either."""
    while end is not None:
        cell = came_from[end]
        freed = partner.get(cell)
        partner[cell] = end
        partner[end] = cell
        end = freed


def laid_or_short(near):
    """A laying by tiles of cells and their neighbours, as the dict of neighbours tells them, or cells that are short.

    Where a search fails, each cell come to has a tile whose other half is the first one's colour and was gone on from:
    so the neighbours of these and of the first one, which has no tile, are one fewer than they are.
    """
    partner = {}
    for first in near:
        if first not in partner:
            end, came_from = search_from(near, partner, first)
            if end is None:
                return ("short", sorted([first] + [partner[cell] for cell in came_from]))
            lay_along(partner, came_from, end)
    return ("laid", sorted([(cell, partner[cell]) for cell in partner if cell < partner[cell]]))


def lay_floor(floor):
    """Either ("laid", laying) or ("short", cells)."""
    return laid_or_short(neighbours_on(floor))
