"""How far apart layings of one floor are, ways of turns between them, and the higher, lower and middle one."""

from floortwos.errors import NotAlike
from floortwos.floors import check_no_holes, corners_of
from floortwos.heights import heights_of, laying_of
from floortwos.layings import floor_of

# A turn changes the height of its corner by so much.
TURN_RISE = 4


def common_floor(layings):
    """The floor of all the layings; refused where one is no laying, the floors are unlike, or it has holes."""
    floors = [floor_of(laying) for laying in layings]
    if any([floor != floors[0] for floor in floors]):
        raise NotAlike("the layings are of unlike floors")
    check_no_holes(floors[0])
    return floors[0]


def turns_between(one, other):
    """How many turns the two layings are apart."""
    common_floor([one, other])
    return sum([abs(high - low) for high, low in zip(heights_of(one), heights_of(other))]) // TURN_RISE


def turns_up(corners, low, high):
    """The turns upward from low heights to high ones, each corner as often as it has to be turned there.

    The lowest corner of those that are still too low lies below its neighbours, or else one of these would be too low
    as well, and lower: so it is a turn upward, and the turns can be taken by the heights that they start from.
    """
    starts = []
    for at, corner in enumerate(corners):
        starts.extend([(height, corner) for height in range(low[at], high[at], TURN_RISE)])
    return [corner for height, corner in sorted(starts)]


def way_between(one, other):
    """A shortest row of turns from the one laying to the other."""
    corners = corners_of(common_floor([one, other]))
    start, goal = heights_of(one), heights_of(other)
    # Up to the higher of the two, and from there down: no corner is turned both ways, so no way is shorter.
    return turns_up(corners, start, goal) + turns_up(corners, goal, start)[::-1]


def higher_of(one, other):
    """The laying that has at each corner the greater height of the two."""
    floor = common_floor([one, other])
    return laying_of(floor, [max(pair) for pair in zip(heights_of(one), heights_of(other))])


def lower_of(one, other):
    """The laying that has at each corner the lesser height of the two."""
    floor = common_floor([one, other])
    return laying_of(floor, [min(pair) for pair in zip(heights_of(one), heights_of(other))])


def middle_of(one, two, three):
    """The laying that has at each corner the middle height of the three."""
    floor = common_floor([one, two, three])
    return laying_of(floor, [sorted(some)[1] for some in zip(heights_of(one), heights_of(two), heights_of(three))])
