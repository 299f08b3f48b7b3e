import unittest

from floortwos.layings import floor_of, turned, turns_of
from helpers import (
    FAR, FULL, NO_LAYINGS, RING, WHEEL, Refusing, all_layings, block, covers, drawn, level, level_rows, moved,
    moved_tiles, subsets, upright,
)

LEVEL = [level(0, 0), level(1, 0)]
UPRIGHT = [upright(0, 0), upright(0, 1)]
WINDOW = block(9, 9, -3, -3)


def looked_at(laying, corner):
    """Whether the corner is a turn: two tiles at it, which cover just its four cells."""
    four = block(2, 2, corner[0] - 1, corner[1] - 1)
    tiles = [tile for tile in laying if tile[0] in four or tile[1] in four]
    return len(tiles) == 2 and sorted([cell for tile in tiles for cell in tile]) == four


def layings_around():
    """The layings of floors of several forms, some with holes, around (0, 0)."""
    floors = [
        block(2, 2, -1, -1), block(2, 3, -1, -1), block(3, 4, -1, -2), block(4, 4, -2, -2), moved(RING, -1, -1),
        drawn("##.. #### ..##", -1, -1), drawn("#### #..# ####", -1, -2), drawn("##.## ##.##", 0, -2),
        drawn(".##. #### #### .##.", -2, -2),
    ]
    return [laying for floor in floors for laying in all_layings(floor)]


class TestTurns(Refusing, unittest.TestCase):
    def test_none(self):
        self.assertEqual(turns_of([]), [])
        self.assertEqual(turns_of([level(0, 0)]), [])
        self.assertEqual(turns_of([upright(0, 0)]), [])

    def test_two_level_ones_and_two_upright_ones(self):
        self.assertEqual(turns_of(LEVEL), [(1, 1)])
        self.assertEqual(turns_of(UPRIGHT), [(1, 1)])

    def test_two_in_one_row_are_none(self):
        self.assertEqual(turns_of([level(0, 0), level(0, 2)]), [])
        self.assertEqual(turns_of([upright(0, 0), upright(2, 0)]), [])

    def test_two_that_are_moved_against_each_other_are_none(self):
        for tiles in [
            [level(0, 0), level(1, 1)], [level(0, 1), level(1, 0)], [level(0, 0), level(2, 0)],
            [upright(0, 0), upright(1, 1)], [upright(0, 1), upright(1, 0)], [upright(0, 0), upright(0, 2)],
            [upright(0, 0), level(0, 1)], [level(0, 0), upright(1, 0)], [upright(0, 0), level(1, 1)],
        ]:
            with self.subTest(tiles=tiles):
                self.assertEqual(turns_of(tiles), [])

    def test_four_cells_that_three_or_four_tiles_cover(self):
        self.assertEqual(turns_of([level(0, 0), level(1, -1), level(1, 1)]), [])
        self.assertEqual(turns_of([upright(-1, 1), upright(0, 0), upright(1, 1)]), [])
        self.assertEqual(turns_of([level(0, 0), upright(1, 0), upright(1, 1)]), [(2, 1)])
        self.assertEqual(turns_of([level(0, -1), level(0, 1), level(1, -1), level(1, 1)]), [(1, 0), (1, 2)])
        self.assertEqual(turns_of([upright(-1, 0), upright(-1, 1), upright(1, 0), upright(1, 1)]), [(0, 1), (2, 1)])
        self.assertEqual(turns_of(WHEEL), [])
        self.assertEqual(turns_of([upright(-1, 0), level(0, 1), level(1, -1), upright(1, 1)]), [])

    def test_several_are_sorted(self):
        self.assertEqual(turns_of([upright(0, 0), upright(0, 1), upright(0, 2)]), [(1, 1), (1, 2)])
        self.assertEqual(turns_of([level(0, 0), level(1, 0), level(2, 0)]), [(1, 1), (2, 1)])
        self.assertEqual(turns_of([upright(0, 5), upright(0, 6), level(1, 0), level(2, 0)]), [(1, 6), (2, 1)])
        self.assertEqual(turns_of([upright(0, 0), upright(0, 1), level(0, 5), level(1, 5)]), [(1, 1), (1, 6)])

    def test_far_away(self):
        for down, right in [(-1, -1), (FAR, -FAR), (-FAR, FAR)]:
            self.assertEqual(turns_of(moved_tiles(LEVEL, down, right)), [(1 + down, 1 + right)])
            self.assertEqual(turns_of(moved_tiles(UPRIGHT, down, right)), [(1 + down, 1 + right)])

    def test_32_tiles(self):
        self.assertEqual(turns_of(FULL), [(row, column) for row in range(1, 8) for column in (1, 3, 5, 7)])
        self.assertEqual(turns_of(level_rows(block(1, 64))), [])

    def test_what_is_no_laying(self):
        for tiles in NO_LAYINGS:
            with self.subTest(tiles=tiles):
                self.assert_refused("NoLaying", turns_of, tiles)

    def test_all_layings_of_some_floors(self):
        for laying in layings_around():
            self.assertEqual(turns_of(laying), [corner for corner in WINDOW if looked_at(laying, corner)])

    def test_all_layings_of_small_floors(self):
        for floor in subsets(block(3, 3, -1, -1)):
            for laying in all_layings(floor):
                self.assertEqual(turns_of(laying), [corner for corner in WINDOW if looked_at(laying, corner)])


class TestTurned(Refusing, unittest.TestCase):
    def test_two_level_ones_and_two_upright_ones(self):
        self.assertEqual(turned(LEVEL, (1, 1)), UPRIGHT)
        self.assertEqual(turned(UPRIGHT, (1, 1)), LEVEL)

    def test_other_tiles_stay_and_all_are_sorted(self):
        self.assertEqual(
            turned([level(0, 0), level(0, 2), level(1, 0), level(1, 2)], (1, 1)),
            [upright(0, 0), upright(0, 1), level(0, 2), level(1, 2)],
        )
        self.assertEqual(
            turned([upright(0, 0), upright(0, 1), level(0, 2), level(1, 2)], (1, 1)),
            [level(0, 0), level(0, 2), level(1, 0), level(1, 2)],
        )

    def test_far_away(self):
        for down, right in [(-1, -1), (FAR, -FAR), (-FAR, FAR)]:
            corner = (1 + down, 1 + right)
            one, other = moved_tiles(LEVEL, down, right), moved_tiles(UPRIGHT, down, right)
            self.assertEqual(turned(one, corner), other)
            self.assertEqual(turned(other, corner), one)

    def test_32_tiles(self):
        other = turned(FULL, (4, 5))
        self.assertTrue(covers(block(8, 8), other))
        self.assertEqual(sorted(set(other) - set(FULL)), [upright(3, 4), upright(3, 5)])
        self.assertEqual(sorted(set(FULL) - set(other)), [level(3, 4), level(4, 4)])
        self.assertEqual(turned(other, (4, 5)), FULL)

    def test_a_corner_that_is_no_turn(self):
        for laying, corner in [
            ([], (0, 0)), ([level(0, 0)], (0, 1)), (LEVEL, (0, 0)), (LEVEL, (0, 1)), (LEVEL, (1, 0)), (LEVEL, (1, 2)),
            (LEVEL, (2, 2)), (LEVEL, (FAR, FAR)), (UPRIGHT, (2, 1)), (UPRIGHT, (-1, -1)), (WHEEL, (1, 1)),
            (WHEEL, (1, 2)), (WHEEL, (2, 1)), (FULL, (1, 2)), (FULL, (8, 1)), (FULL, (0, 0)),
            ([level(0, 0), level(1, -1), level(1, 1)], (1, 1)),
            ([upright(-1, 1), upright(0, 0), upright(1, 1)], (1, 1)),
            ([level(0, -1), level(0, 1), level(1, -1), level(1, 1)], (1, 1)),
            ([upright(-1, 0), level(0, 1), level(1, -1), upright(1, 1)], (1, 1)),
        ]:
            with self.subTest(laying=laying, corner=corner):
                self.assert_refused("NoTurn", turned, laying, corner)

    def test_no_laying_is_refused_ahead_of_no_turn(self):
        for tiles in NO_LAYINGS:
            for corner in [(1, 1), (0, 0), (FAR, FAR)]:
                with self.subTest(tiles=tiles, corner=corner):
                    self.assert_refused("NoLaying", turned, tiles, corner)

    def test_all_corners_of_all_layings_of_some_floors(self):
        for laying in layings_around():
            floor = floor_of(laying)
            for corner in WINDOW:
                if not looked_at(laying, corner):
                    self.assert_refused("NoTurn", turned, laying, corner)
                    continue
                other = turned(laying, corner)
                self.assertTrue(covers(floor, other))
                four = block(2, 2, corner[0] - 1, corner[1] - 1)
                changed = set(laying) ^ set(other)
                self.assertEqual(len(changed), 4)
                self.assertTrue(all(cell in four for tile in changed for cell in tile))
                self.assertEqual(turned(other, corner), laying)


class TestOwnLists(unittest.TestCase):
    def test_what_is_handed_in_stays(self):
        laying = list(LEVEL)
        self.assertIsNot(turned(laying, (1, 1)), laying)
        turns_of(laying)
        self.assertEqual(laying, LEVEL)

    def test_a_changed_answer_changes_no_later_one(self):
        for told, handed in [
            (turns_of, [LEVEL]), (turned, [LEVEL, (1, 1)]), (turned, [FULL, (1, 1)]), (turns_of, [[]]),
        ]:
            with self.subTest(told=told.__name__):
                laying = list(handed[0])
                first = told(laying, *handed[1:])
                kept = list(first)
                first.reverse()
                first.append(((9, 9), (9, 10)))
                self.assertEqual(laying, handed[0])
                self.assertEqual(told(laying, *handed[1:]), kept)
                self.assertEqual(told(list(handed[0]), *handed[1:]), kept)

    def test_a_list_changed_behind_a_call_changes_no_answer(self):
        laying = list(FULL)
        corners, other = turns_of(laying), turned(laying, (1, 1))
        kept, other_kept = list(corners), list(other)
        laying.pop(0)
        self.assertEqual((corners, other), (kept, other_kept))
        self.assertEqual(turns_of(laying), [corner for corner in kept if corner != (1, 1)])
        self.assertEqual(turns_of(list(FULL)), kept)


if __name__ == "__main__":
    unittest.main()
