import random
import unittest

from floortwos.floors import corners_of, holes_in, parts_of, sides_of
from floortwos.heights import heights_of, is_upward, laying_of
from floortwos.layings import turned, turns_of
from helpers import (
    EVEN_BUT_SHORT, FAR, FULL, HOLED_LAYINGS, JOINED, RING, Refusing, all_layings, block, cells_of, drawn,
    laid_at_random, level, level_rows, moved, rule_rise, subsets, upright,
)

LEVEL = [level(0, 0), level(1, 0)]
UPRIGHT = [upright(0, 0), upright(0, 1)]
PARTED = drawn("##.## ##.## ..... ##.## ##.##", -2, -2)


def plain_heights(floor):
    """Heights of the corners such as they would be by sides without a tile, whatever way leads to a corner first."""
    heights = {}
    for part in parts_of(floor):
        heights[corners_of(part)[0]] = 0
    sides = sides_of(floor)
    while len(heights) < len(corners_of(floor)):
        for one, other in sides:
            if one in heights and other not in heights:
                heights[other] = heights[one] + rule_rise([], one, other)
            if other in heights and one not in heights:
                heights[one] = heights[other] + rule_rise([], other, one)
    return [heights[corner] for corner in corners_of(floor)]


class TestBack(unittest.TestCase):
    def test_none_and_one_tile(self):
        self.assertEqual(laying_of([], []), [])
        self.assertEqual(laying_of(block(1, 2), [0, -1, 0, 1, 2, 1]), [level(0, 0)])
        self.assertEqual(laying_of(block(2, 1), [0, -1, 1, -2, 0, -1]), [upright(0, 0)])
        self.assertEqual(laying_of(block(1, 2, 0, 1), [0, 1, 0, -1, -2, -1]), [level(0, 1)])

    def test_two_tiles(self):
        self.assertEqual(laying_of(block(2, 2), [0, -1, 0, 1, 2, 1, 0, -1, 0]), LEVEL)
        self.assertEqual(laying_of(block(2, 2), [0, -1, 0, 1, -2, 1, 0, -1, 0]), UPRIGHT)

    def test_far_away_and_64_cells(self):
        for tiles in [FULL, level_rows(block(1, 64)), level_rows(block(32, 2, -FAR, FAR)), LEVEL]:
            for down, right in [(0, 0), (0, 1), (-5, -5), (FAR, -FAR)]:
                there = level_rows(moved(cells_of(tiles), down, right))
                self.assertEqual(laying_of(cells_of(there), heights_of(there)), there)

    def test_sorted(self):
        tiles = [upright(0, 0), level(0, 1), level(1, 1), level(2, 0)]
        self.assertEqual(laying_of(cells_of(tiles), heights_of(tiles)), tiles)
        tiles = [level(0, 0), upright(0, 2), upright(1, 0), upright(1, 1)]
        self.assertEqual(laying_of(cells_of(tiles), heights_of(tiles)), tiles)

    def test_all_layings_of_small_floors(self):
        for floor in subsets(block(3, 4, -1, -2)):
            if not holes_in(floor):
                for laying in all_layings(floor):
                    self.assertEqual(laying_of(floor, heights_of(laying)), laying)

    def test_random_ones(self):
        chance = random.Random(42)
        for _ in range(150):
            floor = laid_at_random(chance, chance.randrange(3, 11))
            if not holes_in(floor):
                for laying in all_layings(floor):
                    self.assertEqual(laying_of(floor, heights_of(laying)), laying)


class TestRefused(Refusing, unittest.TestCase):
    def refuse(self, floor, heights):
        self.assert_refused("NoHeights", laying_of, floor, heights)

    def test_too_short_too_long_or_empty(self):
        for tiles in [[level(0, 0)], LEVEL, FULL, [level(0, 0), level(5, 5)]]:
            floor, heights = cells_of(tiles), heights_of(tiles)
            for wrong in [
                [], [0], heights[:-1], heights[1:], heights + [0], [0] + heights, heights + [heights[-1]],
                heights * 2, heights[:1] + heights, [0] * 1000,
            ]:
                self.refuse(floor, wrong)
        for wrong in [[0], [1], [0, 0], [0] * 1000, [FAR]]:
            self.refuse([], wrong)

    def test_one_height_changed(self):
        great = 4 * 10 ** 100
        for tiles in [[level(0, 0)], [upright(0, 1)], level_rows(block(2, 4)), [level(0, 0), level(0, 3)], FULL]:
            floor, heights = cells_of(tiles), heights_of(tiles)
            turns = {(corner, 4 if is_upward(tiles, corner) else -4) for corner in turns_of(tiles)}
            for at, corner in enumerate(corners_of(floor)):
                for change in [4, -4, 1, -1, 2, -2, 3, -3, 8, great, -great, great + 1]:
                    changed = list(heights)
                    changed[at] += change
                    if (corner, change) in turns:
                        self.assertEqual(laying_of(floor, changed), turned(tiles, corner))
                    else:
                        self.refuse(floor, changed)

    def test_changed_by_4(self):
        # The only corner that can be turned is (1, 1), and from level ones only downward.
        heights = heights_of(LEVEL)
        for at in range(9):
            for change in [4, -4]:
                wrong = list(heights)
                wrong[at] += change
                if (at, change) == (4, -4):
                    self.assertEqual(laying_of(block(2, 2), wrong), UPRIGHT)
                else:
                    self.refuse(block(2, 2), wrong)

    def test_all_of_them_higher(self):
        for tiles in [[level(0, 0)], LEVEL, FULL, [level(0, 0), level(5, 5)]]:
            for change in [1, -1, 4, -4, 10 ** 100]:
                self.refuse(cells_of(tiles), [height + change for height in heights_of(tiles)])

    def test_one_part_higher(self):
        tiles = [level(0, 0), level(0, 3)]
        heights = heights_of(tiles)
        corners = corners_of(cells_of(tiles))
        for change in [1, 4, -4]:
            for first in (True, False):
                self.refuse(
                    cells_of(tiles),
                    [height + change * ((corner[1] < 3) == first) for corner, height in zip(corners, heights)],
                )

    def test_the_other_way_up(self):
        for tiles in [[level(0, 0)], LEVEL, UPRIGHT, FULL]:
            self.refuse(cells_of(tiles), [-height for height in heights_of(tiles)])

    def test_heights_of_another_floor(self):
        self.refuse(block(2, 2, 0, 1), heights_of(LEVEL))
        self.refuse(block(1, 2), heights_of([upright(0, 0)]))
        self.refuse(block(2, 1), heights_of([level(0, 0)]))
        self.assertEqual(laying_of(block(2, 2, 1, 1), heights_of(LEVEL)), [level(1, 1), level(2, 1)])

    def test_heights_of_another_laying_mixed_in(self):
        layings = all_layings(block(3, 4))
        right = {tuple(heights_of(laying)): laying for laying in layings}
        seen = set()
        for one in right:
            for other in right:
                for at in range(len(one)):
                    mixed = one[:at] + other[at:]
                    seen.add(mixed in right)
                    if mixed in right:
                        self.assertEqual(laying_of(block(3, 4), list(mixed)), right[mixed])
                    else:
                        self.refuse(block(3, 4), list(mixed))
        self.assertEqual(seen, {True, False})

    def test_parts_may_be_mixed(self):
        one = level_rows(PARTED)
        other = [upright(row, column) for row in (-2, 1) for column in (-2, -1, 1, 2)]
        corners = corners_of(PARTED)
        pairs = zip(corners, heights_of(one), heights_of(other))
        mixed = [low if corner[1] < 1 else high for corner, low, high in pairs]
        told = sorted([tile for tile in one if tile[0][1] < 1] + [tile for tile in other if tile[0][1] >= 1])
        self.assertEqual(laying_of(PARTED, mixed), told)

    def test_a_tile_across_the_rim(self):
        # By the rule but for the rim: over the side at the right a tile would lie half beside the floor.
        self.refuse([(0, 0)], [0, -1, 1, 2])
        self.refuse([(0, 0)], [0, 3, 1, 2])
        self.refuse([(0, 0)], [0, -1, 1, -2])
        self.refuse([(0, 0)], [0, -1, -3, -2])

    def test_floors_without_a_laying(self):
        for floor in EVEN_BUT_SHORT + [JOINED, [(0, 0)], block(3, 3), block(8, 8)[1:-1]]:
            if not holes_in(floor):
                self.refuse(floor, plain_heights(floor))
                self.refuse(floor, [0] * len(corners_of(floor)))

    def test_all_lists_of_small_numbers(self):
        told = []
        for code in range(9 ** 5):
            digits = [code // 9 ** at % 9 - 4 for at in range(5)]
            if abs(digits[0]) == 1 and abs(digits[2]) == 1:
                try:
                    told.append(laying_of(block(1, 2), [0] + digits))
                except ValueError:
                    pass
        self.assertEqual(told, [[level(0, 0)]])

    def test_things_that_are_no_whole_numbers(self):
        for wrong in [[False, -1, 0, 1, 2, 1], [0, -1, 0, True, 2, 1], [0, -1, 0, 1, 2, None], [0, "-1", 0, 1, 2, 1]]:
            self.refuse(block(1, 2), wrong)

    def test_holes(self):
        for laying in HOLED_LAYINGS:
            floor = cells_of(laying)
            for wrong in [[], [0], [0] * len(corners_of(floor)), [10 ** 100] * 3]:
                self.assert_refused("Holed", laying_of, floor, wrong)
        # Heights that come to the same all round a hole.
        floor = RING
        self.assert_refused("Holed", laying_of, floor, [0, -1, 0, -1, 1, 2, 1, -2, 0, -1, 0, -1, -1, -2, -1, 0])


class TestOwnLists(unittest.TestCase):
    def test_what_is_handed_in_stays(self):
        floor, heights = block(8, 8), heights_of(FULL)
        kept = list(heights)
        laying_of(floor, heights)
        self.assertEqual((floor, heights), (block(8, 8), kept))
        heights[5] += 1
        kept = list(heights)
        with self.assertRaises(ValueError):
            laying_of(floor, heights)
        self.assertEqual((floor, heights), (block(8, 8), kept))

    def test_a_changed_answer_changes_no_later_one(self):
        for tiles in [[], LEVEL, FULL]:
            floor, heights = cells_of(tiles), heights_of(tiles)
            first = laying_of(floor, heights)
            self.assertIsNot(first, floor)
            self.assertIsNot(first, heights)
            first.reverse()
            first.append(level(9, 9))
            self.assertEqual((floor, heights), (cells_of(tiles), heights_of(tiles)))
            self.assertEqual(laying_of(floor, heights), tiles)

    def test_a_list_changed_behind_a_call_changes_no_answer(self):
        floor, heights = block(2, 2), heights_of(LEVEL)
        told = laying_of(floor, heights)
        heights[4] -= 4
        self.assertEqual(told, LEVEL)
        self.assertEqual(laying_of(floor, heights), UPRIGHT)


if __name__ == "__main__":
    unittest.main()
