"""Floors and layings read from rows of signs, and shown as such."""

from floortwos.cells import is_level
from floortwos.errors import NoText, TooWide
from floortwos.floors import MOST_CELLS
from floortwos.layings import check_laying

MOST_ROWS = 64
MOST_COLUMNS = 64
FLOOR_SIGNS = "#."
LAYING_SIGNS = "<>^v."

# For each half of a tile: how far down and right its other half stands, and the other half's sign.
OTHER_HALVES = {"<": (0, 1, ">"), ">": (0, -1, "<"), "^": (1, 0, "v"), "v": (-1, 0, "^")}


def sign_at(rows, row, column):
    """The sign that is written there, also beyond the bounds; a dot where nothing is written."""
    if 0 <= row < len(rows) and 0 <= column < len(rows[row]):
        return rows[row][column]
    return "."


def lacks_half(rows, row, column):
    """Whether a half of a tile is written there, but not its other half where it ought to stand."""
    sign = rows[row][column]
    if sign not in OTHER_HALVES:
        return False
    down, right, wanted = OTHER_HALVES[sign]
    return sign_at(rows, row + down, column + right) != wanted


def is_wrong(rows, signs, row, column):
    """Whether the sign that is written there is beyond the bounds, none of the signs, or a lonely half."""
    return column >= MOST_COLUMNS or rows[row][column] not in signs or lacks_half(rows, row, column)


def read_cells(rows, signs):
    """The cells that are written in the rows with these signs, sorted; the first wrong place is refused."""
    cells = []
    for row in range(len(rows)):
        # Ahead of a look at its signs: the row is one too many even where it has none.
        if row >= MOST_ROWS:
            raise NoText(row, 0)
        for column in range(len(rows[row])):
            if is_wrong(rows, signs, row, column):
                raise NoText(row, column)
            if rows[row][column] != ".":
                if len(cells) == MOST_CELLS:
                    raise NoText(row, column)
                cells.append((row, column))
    return cells


def read_floor(rows):
    """The floor that is written in the rows."""
    return read_cells(rows, FLOOR_SIGNS)


def read_laying(rows):
    """The laying that is written in the rows."""
    tiles = []
    for row, column in read_cells(rows, LAYING_SIGNS):
        down, right, wanted = OTHER_HALVES[rows[row][column]]
        other = (row + down, column + right)
        if (row, column) < other:
            tiles.append(((row, column), other))
    return tiles


def shown(signs):
    """The rows that show the signs, a dict with a sign for each cell."""
    if not signs:
        return []
    rows = [row for row, column in signs]
    columns = [column for row, column in signs]
    top, left = min(rows), min(columns)
    height, width = max(rows) - top + 1, max(columns) - left + 1
    if height > MOST_ROWS or width > MOST_COLUMNS:
        raise TooWide(f"more than {MOST_ROWS} rows or {MOST_COLUMNS} columns")
    return [
        "".join([signs.get((top + down, left + right), ".") for right in range(width)])
        for down in range(height)
    ]


def shown_floor(floor):
    """The floor as rows of signs."""
    return shown({cell: "#" for cell in floor})


def shown_laying(laying):
    """The laying as rows of signs."""
    check_laying(laying)
    signs = {}
    for tile in laying:
        one, other = tile
        if is_level(tile):
            signs[one], signs[other] = "<", ">"
        else:
            signs[one], signs[other] = "^", "v"
    return shown(signs)
