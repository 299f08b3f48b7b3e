import random
import unittest

from floortwos.floors import corners_of, holes_in, parts_of, sides_of
from floortwos.heights import heights_of, is_upward
from floortwos.layings import floor_of, turned, turns_of
from helpers import (
    CORNERED, FAR, FULL, HOLED_LAYINGS, NO_LAYINGS, WHEEL, Refusing, all_layings, block, cells_of, drawn, in_steps,
    laid_at_random, level, level_rows, moved_tiles, rule_rise, subsets, upright,
)

LEVEL = [level(0, 0), level(1, 0)]
UPRIGHT = [upright(0, 0), upright(0, 1)]
FLOORS = [
    block(3, 4, -1, -2), block(4, 4, -2, -1), drawn(".##. #### #### .##.", -2, -2), drawn("##.. ..##"),
    drawn("##... ##... ..##. ..##."), drawn("##.## ##.##"), drawn("#.## #... .... ..## ..##", -3, 1),
]


class Heights(Refusing, unittest.TestCase):
    def look_at(self, laying):
        """Looks at the heights of the laying, side by side; tells them as a dict."""
        told = heights_of(laying)
        floor = cells_of(laying)
        corners = corners_of(floor)
        self.assertIs(type(told), list)
        self.assertEqual({type(height) for height in told} - {int}, set())
        self.assertEqual(len(told), len(corners))
        heights = dict(zip(corners, told))
        for part in parts_of(floor):
            self.assertEqual(heights[corners_of(part)[0]], 0)
        for one, other in sides_of(floor):
            self.assertEqual(heights[other] - heights[one], rule_rise(laying, one, other), (laying, one, other))
        return heights


class TestHeights(Heights):
    def test_none_and_one_tile(self):
        self.assertEqual(heights_of([]), [])
        self.assertEqual(heights_of([level(0, 0)]), [0, -1, 0, 1, 2, 1])
        self.assertEqual(heights_of([upright(0, 0)]), [0, -1, 1, -2, 0, -1])

    def test_one_tile_at_an_odd_corner(self):
        self.assertEqual(heights_of([level(0, 1)]), [0, 1, 0, -1, -2, -1])
        self.assertEqual(heights_of([upright(0, 1)]), [0, 1, -1, 2, 0, 1])
        self.assertEqual(heights_of([level(-1, 0)]), [0, 1, 0, -1, -2, -1])

    def test_two_tiles(self):
        self.assertEqual(heights_of(LEVEL), [0, -1, 0, 1, 2, 1, 0, -1, 0])
        self.assertEqual(heights_of(UPRIGHT), [0, -1, 0, 1, -2, 1, 0, -1, 0])

    def test_several_parts(self):
        tiles = [level(0, 0), level(0, 3), upright(4, 0)]
        self.assertEqual(heights_of(tiles), [0, -1, 0, 0, 1, 0, 1, 2, 1, -1, -2, -1, 0, -1, 1, -2, 0, -1])
        heights = self.look_at(tiles)
        self.assertEqual([heights[corner] for corner in [(0, 0), (0, 3), (4, 0)]], [0, 0, 0])
        self.look_at([level(0, 9), upright(1, 0), upright(1, 3), level(FAR, -FAR)])

    def test_cells_that_have_just_a_corner_in_common_are_one_part(self):
        heights = self.look_at([level(0, 0), level(1, 2)])
        self.assertEqual(heights[(1, 2)], 1)
        self.assertEqual((heights[(2, 2)], heights[(1, 3)], heights[(2, 3)]), (0, 2, -1))
        # The corner in common is the least one of neither.
        heights = self.look_at([level(0, 2), level(1, 0)])
        self.assertEqual((heights[(0, 2)], heights[(1, 0)]), (0, 1))

    def test_a_part_whose_least_corner_is_a_lower_cell_of_another_column(self):
        heights = self.look_at([upright(0, 4), level(2, 2), upright(2, 4)])
        self.assertEqual([corner for corner in sorted(heights) if heights[corner] == 0][0], (0, 4))

    def test_far_away(self):
        for down, right in [(0, 2), (-3, -3), (FAR, -FAR), (-FAR, FAR), (-FAR, -FAR)]:
            self.assertEqual(heights_of(moved_tiles(LEVEL, down, right)), [0, -1, 0, 1, 2, 1, 0, -1, 0])
            self.assertEqual(heights_of(moved_tiles(LEVEL, down + 1, right)), [0, 1, 0, -1, -2, -1, 0, 1, 0])
            for tiles in [LEVEL, UPRIGHT, FULL]:
                self.look_at(moved_tiles(tiles, down, right))
                self.look_at(moved_tiles(tiles, down + 1, right))

    def test_64_cells(self):
        for tiles in [FULL, level_rows(block(1, 64)), level_rows(block(2, 32)), level_rows(block(32, 2))]:
            self.look_at(tiles)
        self.look_at([upright(row, 0) for row in range(0, 64, 2)])
        self.look_at([upright(row, column) for row in range(0, 8, 2) for column in range(8)])
        self.assertEqual(len(heights_of([level(3 * row, 0) for row in range(32)])), 192)

    def test_round_each_cell(self):
        for laying in all_layings(block(4, 4, -2, -1)) + [FULL, LEVEL, [upright(-1, -1)]]:
            heights = self.look_at(laying)
            for row, column in floor_of(laying):
                corners = [(row, column), (row, column + 1), (row + 1, column + 1), (row + 1, column)]
                rises = [rule_rise(laying, one, other) for one, other in in_steps(corners)]
                self.assertEqual(sum(rises), 0)
                self.assertEqual(sorted([abs(rise) for rise in rises]), [1, 1, 1, 3])
                self.assertEqual(rises, [heights[other] - heights[one] for one, other in in_steps(corners)])

    def test_all_layings_of_small_floors(self):
        for floor in subsets(block(3, 4, -1, -2)):
            for laying in all_layings(floor):
                if holes_in(floor):
                    self.assert_refused("Holed", heights_of, laying)
                else:
                    self.look_at(laying)

    def test_random_ones(self):
        chance = random.Random(41)
        words = set()
        for _ in range(150):
            floor = laid_at_random(chance, chance.randrange(3, 11))
            laying = chance.choice(all_layings(floor))
            words.add(holes_in(floor) > 0)
            if holes_in(floor):
                self.assert_refused("Holed", heights_of, laying)
            else:
                self.look_at(laying)
        self.assertEqual(words, {True, False})

    def test_holes(self):
        for laying in HOLED_LAYINGS:
            for down, right in [(0, 0), (-1, 2), (FAR, -FAR)]:
                self.assert_refused("Holed", heights_of, moved_tiles(laying, down, right))
        self.assert_refused("Holed", heights_of, sorted(WHEEL + [level(20, 20)]))

    def test_no_laying(self):
        for tiles in NO_LAYINGS + [WHEEL[::-1], WHEEL + [level(2, 1)], CORNERED + [level(3, 2)]]:
            with self.subTest(tiles=tiles):
                self.assert_refused("NoLaying", heights_of, tiles)


class TestUpward(Heights):
    def test_at_an_even_corner(self):
        self.assertIs(is_upward(UPRIGHT, (1, 1)), True)
        self.assertIs(is_upward(LEVEL, (1, 1)), False)

    def test_at_an_odd_corner(self):
        self.assertIs(is_upward(moved_tiles(UPRIGHT, 0, 1), (1, 2)), False)
        self.assertIs(is_upward(moved_tiles(LEVEL, 0, 1), (1, 2)), True)
        self.assertIs(is_upward(moved_tiles(UPRIGHT, -2, 1), (-1, 2)), False)
        self.assertIs(is_upward(moved_tiles(LEVEL, -2, 1), (-1, 2)), True)

    def test_far_away(self):
        for down, right in [(FAR, -FAR), (-FAR, FAR), (-FAR, -FAR)]:
            self.assertIs(is_upward(moved_tiles(UPRIGHT, down, right), (1 + down, 1 + right)), True)
            self.assertIs(is_upward(moved_tiles(UPRIGHT, down + 1, right), (2 + down, 1 + right)), False)

    def test_a_corner_that_is_no_turn(self):
        for laying, corner in [
            ([], (0, 0)), ([level(0, 0)], (0, 1)), (LEVEL, (0, 0)), (LEVEL, (1, 0)), (LEVEL, (1, 2)), (UPRIGHT, (2, 1)),
            (UPRIGHT, (FAR, FAR)), (FULL, (1, 2)), (FULL, (8, 1)), (WHEEL, (1, 1)), (WHEEL, (2, 2)), (CORNERED, (2, 2)),
            ([level(0, 0), level(1, -1), level(1, 1)], (1, 1)),
        ]:
            with self.subTest(laying=laying, corner=corner):
                self.assert_refused("NoTurn", is_upward, laying, corner)

    def test_no_laying_is_refused_ahead_of_no_turn(self):
        for tiles in NO_LAYINGS:
            for corner in [(1, 1), (0, 0), (FAR, FAR)]:
                with self.subTest(tiles=tiles, corner=corner):
                    self.assert_refused("NoLaying", is_upward, tiles, corner)

    def test_with_holes(self):
        # A ring of breadth two round a cell that is missing.
        laying = sorted(
            [level(row, column) for row in (0, 1, 3, 4) for column in (0, 2)]
            + [upright(row, 4) for row in (0, 3)] + [level(2, 0), level(2, 3)]
        )
        self.assertEqual(holes_in(floor_of(laying)), 1)
        self.assertEqual(turns_of(laying), [(1, 1), (1, 3), (2, 1), (3, 1), (4, 1), (4, 3)])
        told = [is_upward(laying, corner) for corner in turns_of(laying)]
        self.assertEqual(told, [False, False, True, False, True, True])
        for corner in turns_of(laying):
            self.assertIs(is_upward(turned(laying, corner), corner), not is_upward(laying, corner))

    def test_a_turn_changes_the_height_of_its_corner_alone(self):
        for floor in FLOORS:
            for laying in all_layings(floor):
                heights = self.look_at(laying)
                for corner in turns_of(laying):
                    others = self.look_at(turned(laying, corner))
                    changed = [at for at in heights if heights[at] != others[at]]
                    self.assertEqual(changed, [corner])
                    upward = is_upward(laying, corner)
                    self.assertEqual(others[corner] - heights[corner], 4 if upward else -4)
                    self.assertIs(is_upward(turned(laying, corner), corner), not upward)


class TestOwnLists(unittest.TestCase):
    def test_what_is_handed_in_stays(self):
        laying = list(FULL)
        heights_of(laying)
        is_upward(laying, (1, 1))
        self.assertEqual(laying, FULL)

    def test_a_changed_answer_changes_no_later_one(self):
        for tiles in [[], LEVEL, FULL]:
            laying = list(tiles)
            first = heights_of(laying)
            kept = list(first)
            first.reverse()
            first.append(7)
            self.assertEqual(laying, tiles)
            self.assertEqual(heights_of(laying), kept)
            self.assertEqual(heights_of(list(tiles)), kept)

    def test_a_list_changed_behind_a_call_changes_no_answer(self):
        laying = list(LEVEL)
        told = heights_of(laying)
        laying.pop()
        self.assertEqual(told, [0, -1, 0, 1, 2, 1, 0, -1, 0])
        self.assertEqual(heights_of(laying), [0, -1, 0, 1, 2, 1])


if __name__ == "__main__":
    unittest.main()
