"""Floors cut at a row, and layings counted by a cut."""

from floortwos.counts import check_width, count_rest
from floortwos.layings import places_of


def row_or_least(floor, row):
    """The row that is told, else that of the floor's least cell, 0 where it has none."""
    if row is not None:
        return row
    return floor[0][0] if floor else 0


def cut_at(floor, row=None):
    """A tuple: the floor of the cells above the row, the floor of the others, and the crossing places."""
    cut = row_or_least(floor, row)
    upper = [cell for cell in floor if cell[0] < cut]
    lower = [cell for cell in floor if cell[0] >= cut]
    crossing = [(one, other) for one, other in places_of(floor) if one[0] < cut <= other[0]]
    return (upper, lower, crossing)


def choices_of(places):
    """All sets of the places, as lists."""
    choices = [[]]
    for place in places:
        choices = choices + [chosen + [place] for chosen in choices]
    return choices


def upside_down(cells):
    """The cells with the lowest row as the uppermost."""
    return sorted([(-row, column) for row, column in cells])


def by_cut(floor, row=None):
    """How many layings the floor has, by the counts of what the crossing places leave above and below the row."""
    check_width(floor)
    upper, lower, crossing = cut_at(floor, row)
    known = {}
    total = 0
    for chosen in choices_of(crossing):
        covered = [cell for place in chosen for cell in place]
        # Upside down: so the covered cells come first here, too, and what is left behind them is counted but once.
        above = upside_down([cell for cell in upper if cell not in covered])
        below = [cell for cell in lower if cell not in covered]
        total += count_rest(tuple(above), known) * count_rest(tuple(below), known)
    return total
