"""Whether a place of a floor is in each laying of it, in none, or in some."""

from floortwos.errors import NoLaying, NoTile
from floortwos.lay import laid_or_short, lay_floor, neighbours_on
from floortwos.layings import places_of


def lay_without(floor, place):
    """A laying that has not the place, or cells that are short if the place's two are no neighbours of each other."""
    one, other = place
    near = neighbours_on(floor)
    near[one].remove(other)
    near[other].remove(one)
    return laid_or_short(near)


def fate_of(floor, place):
    """The fate of the place: ("some", with, without), ("none", cells) or ("every", cells)."""
    if place not in places_of(floor):
        raise NoTile("the tile is no place of the floor")
    if lay_floor(floor)[0] == "short":
        raise NoLaying("the floor has no laying")
    kind, rest = lay_floor([cell for cell in floor if cell not in place])
    if kind == "short":
        return ("none", rest)
    kind, told = lay_without(floor, place)
    if kind == "short":
        return ("every", told)
    return ("some", sorted(rest + [place]), told)
