"""The refusals of the package: one class for each kind, all of them under TileError."""


class TileError(ValueError):
    """Any refusal."""


class NoFloor(TileError):
    """A list that no floor is made of."""


class NoTile(TileError):
    """Two cells that are no tile, or a tile that is no place of the floor."""


class NoLaying(TileError):
    """A list of tiles that is no laying, or a floor that has none."""


class NoTurn(TileError):
    """A corner that is no turn of the laying."""


class NoText(TileError):
    """Rows of signs that cannot be read; row and column tell the first wrong place."""

    def __init__(self, row, column):
        TileError.__init__(self, f"cannot be read at row {row}, column {column}")
        self.row = row
        self.column = column


class TooWide(TileError):
    """A floor or a laying of too many rows or columns."""


class Holed(TileError):
    """A floor with holes."""


class NoHeights(TileError):
    """A list of numbers that does not fit the floor."""


class NotAlike(TileError):
    """Layings of unlike floors."""


class NoNumber(TileError):
    """A thing that is not the number of a laying."""


class NoTable(TileError):
    """A list of rows that is no table of signs."""
