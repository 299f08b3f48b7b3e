"""The numbers of the layings of a floor, and in how many of them each place is."""

from floortwos.cells import is_whole
from floortwos.counts import cases_of, check_width, count_rest
from floortwos.errors import NoNumber
from floortwos.layings import floor_of, places_of


def laying_at(floor, number):
    """The laying of the floor that has the number."""
    check_width(floor)
    known = {}
    rest = tuple(floor)
    if not is_whole(number) or not 0 <= number < count_rest(rest, known):
        raise NoNumber("not a number of a laying of the floor")
    laying = []
    while rest:
        for tile, left in cases_of(rest):
            many = count_rest(left, known)
            if number < many:
                break
            number -= many
        laying.append(tile)
        rest = left
    return laying


def place_of(laying):
    """The number of the laying among those of its floor."""
    floor = floor_of(laying)
    check_width(floor)
    known = {}
    rest = tuple(floor)
    number = 0
    # The first cell of each tile is the least one that the tiles ahead leave, so the tiles come as the cases do.
    for laid in laying:
        for tile, left in cases_of(rest):
            if tile == laid:
                break
            number += count_rest(left, known)
        rest = left
    return number


def shares_of(floor):
    """Tuples (place, many) in the order of the floor's places: in how many layings the place is."""
    check_width(floor)
    places = places_of(floor)
    many = {place: 0 for place in places}
    known = {}
    # For each rest that is come to, in how many ways it is: all of them have equally many cells.
    reached = {tuple(floor): 1}
    while reached:
        following = {}
        for rest in reached:
            for tile, left in cases_of(rest):
                many[tile] += reached[rest] * count_rest(left, known)
                following[left] = following.get(left, 0) + reached[rest]
        reached = following
    return [(place, many[place]) for place in places]
