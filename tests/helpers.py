"""What several test files need; found by its bare name, as the tests are run from this folder."""

import itertools

from floortwos import errors

FAR = 10 ** 60 - 100
NAMES = [
    "NoFloor", "NoTile", "NoLaying", "NoTurn", "NoText", "TooWide",
    "Holed", "NoHeights", "NotAlike", "NoNumber", "NoTable",
]


def block(rows, columns, down=0, right=0):
    return [(row + down, column + right) for row in range(rows) for column in range(columns)]


def drawn(picture, down=0, right=0):
    """The floor of the # in a picture, moved."""
    rows = picture.split()
    return [(at + down, to + right) for at, row in enumerate(rows) for to, sign in enumerate(row) if sign == "#"]


def subsets(cells):
    """All floors of some of the cells."""
    for many in range(len(cells) + 1):
        for chosen in itertools.combinations(cells, many):
            yield list(chosen)


def moved(cells, down, right):
    return [(row + down, column + right) for row, column in cells]


def moved_tiles(tiles, down, right):
    return [tuple(moved(tile, down, right)) for tile in tiles]


def level(row, column):
    return ((row, column), (row, column + 1))


def upright(row, column):
    return ((row, column), (row + 1, column))


def level_rows(floor):
    """The laying of a floor of whole rows of even length by level tiles."""
    return [(floor[at], floor[at + 1]) for at in range(0, len(floor), 2)]


WHEEL = [level(0, 0), upright(0, 2), upright(1, 0), level(2, 1)]
RING = [cell for cell in block(3, 3) if cell != (1, 1)]
FULL = level_rows(block(8, 8))
# Lists of tiles that are no layings: with a tile twice, a cell in two tiles, or out of order.
NO_LAYINGS = [
    [level(0, 0), level(0, 0)],
    [level(0, 0), level(0, 0), level(1, 0)],
    [level(0, 0), level(0, 1)],
    [level(0, 0), upright(0, 0)],
    [level(0, 0), upright(0, 1)],
    [upright(0, 0), upright(1, 0)],
    [level(0, 0), level(0, 2), upright(0, 2)],
    [level(1, 0), level(0, 0)],
    [level(0, 2), level(0, 0)],
    [upright(0, 1), upright(0, 0)],
    [level(0, 0), level(2, 0), level(1, 0)],
    [level(0, 0), level(0, FAR), level(0, FAR + 1)],
    [level(0, 0), level(-1, 0)],
    level_rows(block(8, 8))[::-1],
    level_rows(block(11, 6)),
    level_rows(block(1, 66)),
    level_rows(block(8, 8)) + [level(100, 100)],
    level_rows(block(8, 8)) + [level(7, 6)],
    level_rows(block(8, 8))[:31] + [level(7, 4)],
]
# As many dark cells as light ones, and yet no laying.
EVEN_BUT_SHORT = [
    [(0, 0), (0, 3)],
    [(0, 0), (5, 5), (5, 6), (9, 8)],
    drawn("#..# #### #..#"),
    drawn(".#..#. ###### .#..#."),
    drawn(".#....#. ######## .#....#."),
    drawn(".#.# #### #..# #..# #### .#.#"),
    block(3, 3) + block(3, 3, 5, 0),
]
# A block with a dark cell too many, joined to the rest by a light one, which is of no use to it.
JOINED = sorted(block(7, 7) + [(1, 7)] + [cell for cell in block(3, 5, 1, 8) if cell != (3, 11)])

# Layings of floors with holes: round one cell, round a cell of a broad floor of 64, touching by corners alone, a thin
# ring of 64 cells, and a ring round a part of its own.
CORNERED = [level(0, 1), upright(1, 0), upright(1, 3), level(3, 1)]
BROAD = (
    [level(row, column) for row in (0, 1) for column in range(0, 12, 2)]
    + [level(2, column) for column in (0, 2, 4, 7, 9, 11)]
    + [level(row, column) for row in (3, 4) for column in range(0, 12, 2)]
    + [upright(0, 12), upright(3, 12)]
)
THIN = (
    [level(0, column) for column in range(0, 16, 2)] + [upright(row, 0) for row in range(1, 17, 2)]
    + [upright(row, 16) for row in range(0, 16, 2)] + [level(16, column) for column in range(1, 17, 2)]
)
ROUND = (
    [level(0, column) for column in (0, 2, 4)] + [upright(row, 0) for row in (1, 3, 5)]
    + [upright(row, 6) for row in (0, 2, 4)] + [level(6, column) for column in (1, 3, 5)] + [level(3, 3)]
)
HOLED_LAYINGS = [WHEEL, sorted(BROAD), CORNERED, sorted(THIN), sorted(ROUND)]


def cells_of(tiles):
    """The sorted cells of all the tiles."""
    return sorted([cell for tile in tiles for cell in tile])


def steps_apart(one, other):
    return abs(one[0] - other[0]) + abs(one[1] - other[1])


def all_layings(floor):
    """All layings of the floor, in order, by laying the least cell in each way."""
    if not floor:
        return [[]]
    told = []
    row, column = floor[0]
    for other in [(row, column + 1), (row + 1, column)]:
        if other in floor:
            rest = [cell for cell in floor[1:] if cell != other]
            told.extend([[(floor[0], other)] + laying for laying in all_layings(rest)])
    return told


def covers(floor, tiles):
    """Whether the list is a laying of the floor, looked at word by word."""
    if type(tiles) is not list or tiles != sorted(tiles):
        return False
    for tile in tiles:
        if type(tile) is not tuple or [type(cell) for cell in tile] != [tuple, tuple]:
            return False
        if steps_apart(tile[0], tile[1]) != 1 or not tile[0] < tile[1]:
            return False
    return cells_of(tiles) == floor


def is_short(floor, cells, parted=None):
    """Whether the cells are such as point 13 tells; the two cells of a parted tile are no neighbours of each other."""
    if type(cells) is not list or cells != sorted(set(cells)) or any(cell not in floor for cell in cells):
        return False
    if len({(row + column) % 2 for row, column in cells}) != 1:
        return False
    near = [
        other for other in floor
        if any(steps_apart(cell, other) == 1 and tuple(sorted([cell, other])) != parted for cell in cells)
    ]
    return len(near) < len(cells)


def rule_rise(tiles, one, other):
    """What the rule of point 15 tells for a step from the one corner to the other."""
    even = (one[0] + one[1]) % 2 == 0
    row, column = min(one, other)
    if one[0] != other[0]:
        rise, tile = 1 if even else -1, level(row, column - 1)
    else:
        rise, tile = -1 if even else 1, upright(row - 1, column)
    return rise if tile not in tiles else {1: -3, -1: 3}[rise]


def greatest_rise(floor, one, other):
    """The greatest rise of a side of the floor, by what the rule tells with a tile across and without."""
    row, column = min(one, other)
    tile = level(row, column - 1) if one[0] != other[0] else upright(row - 1, column)
    plain = rule_rise([], one, other)
    if tile[0] in floor and tile[1] in floor:
        return max(plain, rule_rise([tile], one, other))
    return plain


def in_steps(corners):
    """The steps from each corner to the next one, and from the last one to the first."""
    return list(zip(corners, corners[1:] + corners[:1]))


def laid_at_random(chance, many):
    """A floor of so many tiles that lie side by side, so one with a laying."""
    cells = [(0, 0), (0, 1)]
    while len(cells) < 2 * many:
        row, column = chance.choice(cells)
        row, column = row + chance.randrange(-2, 3), column + chance.randrange(-2, 3)
        tile = [(row, column), chance.choice([(row, column + 1), (row + 1, column)])]
        if not any(cell in cells for cell in tile):
            cells.extend(tile)
    return sorted(cells)


def is_wide(floor):
    """Whether the floor is too wide to be counted."""
    columns = [column for row, column in floor]
    return columns != [] and max(columns) - min(columns) > 7


class Refusing:
    """For test cases that look at refusals."""

    def assert_refused(self, name, function, *handed):
        """Whether the call is refused with that class, caught as the two above it and as none of the other ten."""
        with self.assertRaises(ValueError) as caught:
            function(*handed)
        told = caught.exception
        self.assertIsInstance(told, errors.TileError)
        self.assertEqual([other for other in NAMES if isinstance(told, getattr(errors, other))], [name])
        return told
