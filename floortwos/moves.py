"""Moves, which take cells to cells, and so floors to floors and layings to layings."""

from floortwos.cells import tile_of


def moved_floor(move, floor):
    """The floor moved cell by cell, and sorted again."""
    return sorted([move.on_cell(cell) for cell in floor])


def moved_laying(move, laying):
    """The laying moved tile by tile, and sorted again."""
    return sorted([tile_of(move.on_cell(one), move.on_cell(other)) for one, other in laying])


class Move:
    """The plain move, which leaves all as it is; all other moves are under it."""

    def on_cell(self, cell):
        """The cell that the move takes the cell to."""
        row, column = cell
        return (row, column)

    def on_floor(self, floor):
        """The floor moved cell by cell."""
        return moved_floor(self, floor)

    def on_laying(self, laying):
        """The laying moved tile by tile."""
        return moved_laying(self, laying)

    def back(self):
        """A move that undoes this one."""
        return Move()


class Shift(Move):
    """The move by so many rows downward and so many columns to the right."""

    def __init__(self, down, right):
        self.down = down
        self.right = right

    def on_cell(self, cell):
        """The cell that the move takes the cell to."""
        row, column = cell
        return (row + self.down, column + self.right)

    def on_floor(self, floor):
        """The floor moved cell by cell."""
        return moved_floor(self, floor)

    def on_laying(self, laying):
        """The laying moved tile by tile."""
        return moved_laying(self, laying)

    def back(self):
        """A move that undoes this one."""
        return Shift(-self.down, -self.right)


class Quarter(Move):
    """The move by a quarter of a whole round."""

    def on_cell(self, cell):
        """The cell that the move takes the cell to."""
        row, column = cell
        return (column, -row)

    def on_floor(self, floor):
        """The floor moved cell by cell."""
        return moved_floor(self, floor)

    def on_laying(self, laying):
        """The laying moved tile by tile."""
        return moved_laying(self, laying)

    def back(self):
        """A move that undoes this one."""
        return QuarterBack()


class QuarterBack(Move):
    """The move that undoes a quarter; a chain of three quarters would grow with each back of a back."""

    def on_cell(self, cell):
        """The cell that the move takes the cell to."""
        row, column = cell
        return (-column, row)

    def on_floor(self, floor):
        """The floor moved cell by cell."""
        return moved_floor(self, floor)

    def on_laying(self, laying):
        """The laying moved tile by tile."""
        return moved_laying(self, laying)

    def back(self):
        """A move that undoes this one."""
        return Quarter()


class Mirror(Move):
    """The move that changes left and right."""

    def on_cell(self, cell):
        """The cell that the move takes the cell to."""
        row, column = cell
        return (row, -column)

    def on_floor(self, floor):
        """The floor moved cell by cell."""
        return moved_floor(self, floor)

    def on_laying(self, laying):
        """The laying moved tile by tile."""
        return moved_laying(self, laying)

    def back(self):
        """A move that undoes this one."""
        return Mirror()


class Chain(Move):
    """The move that does a first one and then a second one."""

    def __init__(self, first, second):
        self.first = first
        self.second = second

    def on_cell(self, cell):
        """The cell that the move takes the cell to."""
        return self.second.on_cell(self.first.on_cell(cell))

    def on_floor(self, floor):
        """The floor moved cell by cell."""
        return moved_floor(self, floor)

    def on_laying(self, laying):
        """The laying moved tile by tile."""
        return moved_laying(self, laying)

    def back(self):
        """A move that undoes this one."""
        return Chain(self.second.back(), self.first.back())
