"""How many layings a floor has, counted by cases and by rows."""

from floortwos.errors import TooWide

MOST_COLUMNS_APART = 7


def check_width(floor):
    """Refuses a floor whose greatest column is too far from the least one."""
    columns = [column for row, column in floor]
    if columns and max(columns) - min(columns) > MOST_COLUMNS_APART:
        raise TooWide(f"the columns are more than {MOST_COLUMNS_APART} apart")


def cases_of(rest):
    """How the least of the cells can lie: tuples of its tile and of the cells that are left, right ahead of below."""
    if not rest:
        return []
    least = rest[0]
    row, column = least
    cases = []
    for other in ((row, column + 1), (row + 1, column)):
        if other in rest:
            at = rest.index(other)
            cases.append(((least, other), rest[1:at] + rest[at + 1:]))
    return cases


def count_rest(rest, known):
    """How many layings the tuple of cells has; known holds what has been counted already, and is added to."""
    if not rest:
        return 1
    if rest not in known:
        known[rest] = sum([count_rest(left, known) for tile, left in cases_of(rest)])
    return known[rest]


def by_cases(floor):
    """How many layings the floor has, by cases of its least cell."""
    check_width(floor)
    return count_rest(tuple(floor), {})


def fillings(floor, free):
    """For each filling of the free cells of a row, in order, the tuple of the cells that it covers in the row below."""
    if not free:
        return [()]
    row, column = free[0]
    told = []
    if (row, column + 1) in free:
        told.extend(fillings(floor, free[2:]))
    if (row + 1, column) in floor:
        told.extend([((row + 1, column), *others) for others in fillings(floor, free[1:])])
    return told


def filled(floor, row, ways):
    """In how many ways the row and all above it can be filled, for each tuple of cells covered in the row below."""
    below = {}
    for covered in ways:
        free = [cell for cell in floor if cell[0] == row and cell not in covered]
        for cells in fillings(floor, free):
            below[cells] = below.get(cells, 0) + ways[covered]
    return below


def by_rows(floor):
    """How many layings the floor has, row by row."""
    check_width(floor)
    ways = {(): 1}
    for row in sorted({row for row, column in floor}):
        ways = filled(floor, row, ways)
    return ways.get((), 0)
