import itertools
import unittest

from floortwos.layings import floor_of, is_laying, places_of
from helpers import (
    FAR, FULL, NO_LAYINGS, RING, WHEEL, Refusing, all_layings, block, drawn, level, level_rows, moved, moved_tiles,
    steps_apart, subsets, upright,
)


class TestPlaces(unittest.TestCase):
    def test_none(self):
        self.assertEqual(places_of([]), [])

    def test_one_cell_has_none(self):
        self.assertEqual(places_of([(3, -3)]), [])

    def test_two_cells(self):
        self.assertEqual(places_of([(0, 0), (0, 1)]), [((0, 0), (0, 1))])
        self.assertEqual(places_of([(-1, 5), (0, 5)]), [((-1, 5), (0, 5))])

    def test_cells_at_a_corner_or_farther_apart_have_none(self):
        for floor in [[(0, 0), (1, 1)], [(0, 1), (1, 0)], [(0, 0), (0, 2)], [(0, 0), (2, 0)], [(0, 5), (1, 0)]]:
            with self.subTest(floor=floor):
                self.assertEqual(places_of(floor), [])

    def test_four_cells(self):
        self.assertEqual(
            places_of(block(2, 2)),
            [((0, 0), (0, 1)), ((0, 0), (1, 0)), ((0, 1), (1, 1)), ((1, 0), (1, 1))],
        )

    def test_several_parts(self):
        self.assertEqual(
            places_of(drawn("##.# ...# #... ##..")),
            [((0, 0), (0, 1)), ((0, 3), (1, 3)), ((2, 0), (3, 0)), ((3, 0), (3, 1))],
        )

    def test_round_a_hole(self):
        self.assertEqual(len(places_of(RING)), 8)

    def test_far_away_and_below_nought(self):
        for down, right in [(-1, -1), (-7, 4), (FAR, -FAR), (-FAR, FAR), (-FAR, -FAR)]:
            with self.subTest(down=down, right=right):
                self.assertEqual(places_of(moved(RING, down, right)), moved_tiles(places_of(RING), down, right))
        self.assertEqual(
            places_of([(-FAR, 0), (-FAR, 1), (FAR, 0), (FAR + 1, 0)]),
            [((-FAR, 0), (-FAR, 1)), ((FAR, 0), (FAR + 1, 0))],
        )

    def test_64_cells(self):
        self.assertEqual(len(places_of(block(8, 8))), 112)
        self.assertEqual(places_of(block(1, 64)), [level(0, at) for at in range(63)])
        self.assertEqual(places_of(block(64, 1)), [upright(at, 0) for at in range(63)])

    def test_small_floors(self):
        for floor in subsets(block(3, 3, -1, -1)):
            wanted = [pair for pair in itertools.combinations(floor, 2) if steps_apart(pair[0], pair[1]) == 1]
            self.assertEqual(places_of(floor), sorted(wanted))

    def test_a_list_of_tuples_of_tuples(self):
        told = places_of(block(2, 2))
        self.assertIs(type(told), list)
        self.assertEqual([type(tile) for tile in told], [tuple] * 4)
        self.assertEqual([type(cell) for tile in told for cell in tile], [tuple] * 8)


class TestIsLaying(unittest.TestCase):
    def test_the_one_of_no_cells(self):
        self.assertIs(is_laying([], []), True)
        self.assertIs(is_laying([], [level(0, 0)]), False)
        self.assertIs(is_laying([(0, 0)], []), False)
        self.assertIs(is_laying(block(1, 2), []), False)

    def test_ordinary_ones(self):
        self.assertIs(is_laying(block(1, 2), [level(0, 0)]), True)
        self.assertIs(is_laying(block(2, 1), [upright(0, 0)]), True)
        self.assertIs(is_laying(block(2, 2), [level(0, 0), level(1, 0)]), True)
        self.assertIs(is_laying(block(2, 2), [upright(0, 0), upright(0, 1)]), True)
        self.assertIs(is_laying(RING, WHEEL), True)

    def test_of_several_parts(self):
        self.assertIs(is_laying(drawn("##..# ....#"), [level(0, 0), upright(0, 4)]), True)
        self.assertIs(is_laying(drawn("##..# ....#"), [level(0, 0)]), False)

    def test_not_one_of_another_floor(self):
        self.assertIs(is_laying(block(3, 3), WHEEL), False)
        self.assertIs(is_laying(RING, WHEEL[:3]), False)
        self.assertIs(is_laying(RING[:-1], WHEEL), False)
        self.assertIs(is_laying(moved(RING, 0, 1), WHEEL), False)
        self.assertIs(is_laying(block(1, 2), [upright(0, 0)]), False)
        self.assertIs(is_laying(block(2, 2), [level(0, 0), level(0, 2)]), False)
        self.assertIs(is_laying(block(2, 2), [level(0, 0), level(1, 0), level(2, 0)]), False)

    def test_32_tiles(self):
        self.assertIs(is_laying(block(8, 8), FULL), True)
        self.assertIs(is_laying(block(64, 1), [upright(at, 0) for at in range(0, 64, 2)]), True)

    def test_33_tiles(self):
        self.assertIs(is_laying(block(8, 8), FULL + [level(8, 0)]), False)
        self.assertIs(is_laying(block(11, 6), level_rows(block(11, 6))), False)

    def test_a_tile_twice_a_cell_in_two_tiles_and_out_of_order(self):
        for tiles in NO_LAYINGS:
            floor = sorted({cell for tile in tiles for cell in tile})
            with self.subTest(tiles=tiles):
                self.assertIs(is_laying(floor, tiles), False)

    def test_far_away(self):
        for down, right in [(-1, -1), (FAR, -FAR), (-FAR, FAR)]:
            self.assertIs(is_laying(moved(RING, down, right), moved_tiles(WHEEL, down, right)), True)
            self.assertIs(is_laying(RING, moved_tiles(WHEEL, down, right)), False)

    def test_things_that_are_no_tiles(self):
        for thing in [
            ((0, 1), (0, 0)), [(0, 0), (0, 1)], ([0, 0], [0, 1]), ((0, 0), (1, 1)), ((0, 0), (0, 0)), ((0, 0),), (0, 0),
            ((0, False), (0, True)), ((False, 0), (0, 1)), ((0, 0), (0, 1), (0, 2)), ((0, 0), (0, 2)), None, 0, "", {},
        ]:
            with self.subTest(thing=thing):
                self.assertIs(is_laying(block(1, 2), [thing]), False)
                self.assertIs(is_laying(block(2, 2), [thing, level(1, 0)]), False)
        for floor in [[(0, 0), (1, 1)], [(0, 0), (0, 2)], [(0, 0), (5, 0)], [(-1, 4), (0, 3)]]:
            self.assertIs(is_laying(floor, [tuple(floor)]), False)

    def test_all_rows_of_up_to_three_tiles(self):
        places = places_of(block(2, 3))
        for floor in [[], block(1, 2), block(2, 2), block(2, 3), block(2, 3)[1:5]]:
            layings = all_layings(floor)
            for many in range(4):
                for tiles in itertools.product(places, repeat=many):
                    self.assertIs(is_laying(floor, list(tiles)), list(tiles) in layings)

    def test_all_sets_of_places_of_small_floors(self):
        for floor in subsets(block(2, 4, -1, -2)):
            layings = all_layings(floor)
            for tiles in subsets(places_of(floor)):
                self.assertIs(is_laying(floor, tiles), tiles in layings)


class TestFloorOf(Refusing, unittest.TestCase):
    def test_none(self):
        self.assertEqual(floor_of([]), [])

    def test_ordinary_ones(self):
        self.assertEqual(floor_of([level(2, 3)]), [(2, 3), (2, 4)])
        self.assertEqual(floor_of([upright(0, 0), upright(0, 1)]), [(0, 0), (0, 1), (1, 0), (1, 1)])
        self.assertEqual(floor_of(WHEEL), RING)

    def test_cells_are_sorted_across_tiles(self):
        self.assertEqual(floor_of([upright(0, 0), level(0, 5)]), [(0, 0), (0, 5), (0, 6), (1, 0)])

    def test_far_away(self):
        for down, right in [(-3, -3), (FAR, -FAR), (-FAR, FAR)]:
            self.assertEqual(floor_of(moved_tiles(WHEEL, down, right)), moved(RING, down, right))

    def test_32_tiles(self):
        self.assertEqual(floor_of(FULL), block(8, 8))

    def test_what_is_no_laying(self):
        for tiles in NO_LAYINGS:
            with self.subTest(tiles=tiles):
                self.assert_refused("NoLaying", floor_of, tiles)

    def test_small_floors(self):
        for floor in subsets(block(3, 3, -1, -1)):
            for laying in all_layings(floor):
                self.assertEqual(floor_of(laying), floor)

    def test_all_rows_of_up_to_three_tiles(self):
        for many in range(4):
            for tiles in itertools.product(places_of(block(2, 3)), repeat=many):
                cells = [cell for tile in tiles for cell in tile]
                if list(tiles) == sorted(tiles) and len(set(cells)) == len(cells):
                    self.assertEqual(floor_of(list(tiles)), sorted(cells))
                else:
                    self.assert_refused("NoLaying", floor_of, list(tiles))


class TestOwnLists(Refusing, unittest.TestCase):
    def test_what_is_handed_in_stays(self):
        floor, laying = list(RING), list(WHEEL)
        places_of(floor)
        is_laying(floor, laying)
        floor_of(laying)
        self.assertEqual((floor, laying), (RING, WHEEL))

    def test_a_refusal_leaves_the_list_as_it_was(self):
        for tiles in NO_LAYINGS:
            handed = list(tiles)
            is_laying(RING, handed)
            self.assert_refused("NoLaying", floor_of, handed)
            self.assertEqual(handed, tiles)

    def test_a_changed_answer_changes_no_later_one(self):
        for told, handed in [(places_of, RING), (floor_of, WHEEL), (places_of, []), (floor_of, [])]:
            with self.subTest(told=told.__name__, handed=handed):
                given = list(handed)
                first = told(given)
                kept = list(first)
                self.assertIsNot(first, given)
                first.reverse()
                first.append(((9, 9), (9, 10)))
                self.assertEqual(given, handed)
                self.assertEqual(told(given), kept)
                self.assertEqual(told(list(handed)), kept)

    def test_a_list_changed_behind_a_call_changes_no_answer(self):
        floor, laying = list(RING), list(WHEEL)
        places, cells = places_of(floor), floor_of(laying)
        kept = list(places)
        floor.pop()
        laying.pop()
        self.assertEqual((places, cells), (kept, RING))
        self.assertEqual(len(places_of(floor)), 6)
        self.assertEqual(floor_of(laying), [cell for cell in RING if cell not in WHEEL[3]])
        self.assertIs(is_laying(floor, laying), False)
        self.assertIs(is_laying(RING, WHEEL), True)


if __name__ == "__main__":
    unittest.main()
