"""The table of signs of a floor, the size of a table, layings counted by signs, and the sign of a laying."""

from floortwos.cells import beside, is_dark, is_whole
from floortwos.errors import NoTable
from floortwos.floors import check_no_holes
from floortwos.layings import check_laying

MOST_TABLE_ROWS = 32


def sign_between(one, other):
    """The table's number for two neighbouring cells."""
    return 1 if one[0] == other[0] or one[1] % 2 == 0 else -1


def dark_cells(floor):
    """The dark cells of the floor, in order."""
    return [cell for cell in floor if is_dark(cell)]


def light_cells(floor):
    """The light cells of the floor, in order."""
    return [cell for cell in floor if not is_dark(cell)]


def table_of(floor):
    """The table of signs: a row for each dark cell, with a number for each light cell."""
    light = light_cells(floor)
    return [
        [sign_between(cell, other) if other in beside(cell) else 0 for other in light]
        for cell in dark_cells(floor)
    ]


def check_table(rows):
    """Refuses a list of too many rows, or with a row of more or fewer numbers than there are rows."""
    if len(rows) > MOST_TABLE_ROWS:
        raise NoTable(f"{len(rows)} rows, more than {MOST_TABLE_ROWS}")
    for row in rows:
        if len(row) != len(rows) or not all([is_whole(number) for number in row]):
            raise NoTable("a row of more or fewer numbers than there are rows")


def first_with_number(rows):
    """The number of the first row that does not begin with 0; None where all do."""
    for at, row in enumerate(rows):
        if row[0] != 0:
            return at
    return None


def taken_off(row, first, divisor):
    """The row, times the first one's first number, less so much of the first one that a 0 comes first, left out here.

    All is divided by the first number of the step ahead: that leaves no rest, as each number is then the size of a
    table of some rows and columns of the whole, and it keeps the numbers small.
    """
    return [(first[0] * row[at] - row[0] * first[at]) // divisor for at in range(1, len(row))]


def size_of(rows):
    """The size of the table."""
    check_table(rows)
    left = list(rows)
    sign = 1
    divisor = 1
    while left:
        at = first_with_number(left)
        if at is None:
            return 0
        # The row moves up past as many others as are ahead of it, and each of them changes the sign.
        if at % 2 == 1:
            sign = -sign
        first = left[at]
        left = [taken_off(row, first, divisor) for row in left[:at] + left[at + 1:]]
        divisor = first[0]
    return sign * divisor


def by_signs(floor):
    """How many layings the floor has, by the size of its table."""
    check_no_holes(floor)
    if len(dark_cells(floor)) != len(light_cells(floor)):
        return 0
    return abs(size_of(table_of(floor)))


def sign_of(laying):
    """The sign of the laying."""
    check_laying(laying)
    pairs = sorted([(one, other) if is_dark(one) else (other, one) for one, other in laying])
    sign = 1
    for at, (dark, light) in enumerate(pairs):
        sign *= sign_between(dark, light)
        for dark_ahead, light_ahead in pairs[:at]:
            if light_ahead > light:
                sign = -sign
    return sign
