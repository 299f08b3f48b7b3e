"""Places of a floor, layings, and their turns."""

from floortwos.cells import beside, is_tile
from floortwos.errors import NoLaying, NoTurn

MOST_TILES = 32


def places_of(floor):
    """All tiles of two cells of the floor, sorted."""
    return [(cell, other) for cell in floor for other in beside(cell) if cell < other and other in floor]


def cells_under(tiles):
    """The cells of all the tiles, sorted, each as often as it is covered."""
    return sorted([cell for tile in tiles for cell in tile])


def is_some_laying(things):
    """Whether the list of things of any kind is a laying, of whichever floor."""
    # Only tiles can be put in order and looked up: things of other kinds are found ahead of that.
    if len(things) > MOST_TILES or not all([is_tile(thing) for thing in things]):
        return False
    cells = cells_under(things)
    return things == sorted(things) and len(set(cells)) == len(cells)


def is_laying(floor, tiles):
    """Whether the list of tiles, whatever they are, is a laying of the floor."""
    return is_some_laying(tiles) and cells_under(tiles) == floor


def check_laying(tiles):
    """Refuses a list of tiles that is no laying."""
    if not is_some_laying(tiles):
        raise NoLaying("the list of tiles is no laying")


def floor_of(laying):
    """The floor that the laying covers."""
    check_laying(laying)
    return cells_under(laying)


def level_pair(corner):
    """The two level tiles that cover the four cells at the corner."""
    row, column = corner
    return [((row - 1, column - 1), (row - 1, column)), ((row, column - 1), (row, column))]


def upright_pair(corner):
    """The two upright tiles that cover the four cells at the corner."""
    row, column = corner
    return [((row - 1, column - 1), (row, column - 1)), ((row - 1, column), (row, column))]


def has_both(laying, pair):
    """Whether the laying has both tiles of the pair."""
    return pair[0] in laying and pair[1] in laying


def is_turn(laying, corner):
    """Whether two tiles of the laying cover the four cells at the corner."""
    return has_both(laying, level_pair(corner)) or has_both(laying, upright_pair(corner))


def turns_of(laying):
    """The corners that are turns of the laying, sorted."""
    check_laying(laying)
    # The least of the four cells at a turn is the first cell of its tile, so no other corners are looked at.
    corners = [(one[0] + 1, one[1] + 1) for one, other in laying]
    return sorted([corner for corner in corners if is_turn(laying, corner)])


def turned(laying, corner):
    """The laying with the two tiles at the corner laid the other way."""
    check_laying(laying)
    if not is_turn(laying, corner):
        raise NoTurn("the corner is no turn of the laying")
    taken, laid = level_pair(corner), upright_pair(corner)
    if not has_both(laying, taken):
        taken, laid = laid, taken
    return sorted([tile for tile in laying if tile not in taken] + laid)
