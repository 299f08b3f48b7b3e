import unittest

from floortwos.texts import read_floor, read_laying, shown_floor, shown_laying
from helpers import (
    FAR, FULL, NO_LAYINGS, RING, WHEEL, Refusing, all_layings, block, drawn, level, level_rows, moved, moved_tiles,
    subsets, upright,
)

MOVES = [(0, 0), (5, 7), (-1, -1), (-3, 2), (2, -3), (FAR, -FAR), (-FAR, FAR), (-FAR, -FAR), (FAR, FAR)]
WINDING = drawn("#..## ##..# .##.. ....#")


class TestShownFloor(Refusing, unittest.TestCase):
    def test_none(self):
        self.assertEqual(shown_floor([]), [])

    def test_ordinary_ones(self):
        self.assertEqual(shown_floor([(0, 0)]), ["#"])
        self.assertEqual(shown_floor(block(2, 3)), ["###", "###"])
        self.assertEqual(shown_floor(RING), ["###", "#.#", "###"])

    def test_all_rows_are_of_one_length(self):
        self.assertEqual(shown_floor([(0, 0), (1, 3), (2, 1)]), ["#...", "...#", ".#.."])

    def test_a_row_or_column_without_cells_is_shown(self):
        self.assertEqual(shown_floor([(0, 0), (2, 2)]), ["#..", "...", "..#"])
        self.assertEqual(shown_floor([(0, 2), (3, 0)]), ["..#", "...", "...", "#.."])

    def test_moved_to_the_least_row_and_the_least_column(self):
        for down, right in MOVES:
            with self.subTest(down=down, right=right):
                self.assertEqual(shown_floor(moved(WINDING, down, right)), ["#..##", "##..#", ".##..", "....#"])
                self.assertEqual(shown_floor([(down, right + 1), (down + 1, right)]), [".#", "#."])

    def test_numbers_on_both_sides_of_nought(self):
        self.assertEqual(shown_floor([(-1, 1), (0, -1), (1, 0)]), ["..#", "#..", ".#."])

    def test_64_rows_or_columns_and_65(self):
        for down, right in MOVES:
            self.assertEqual(shown_floor(moved([(0, 0), (63, 0)], down, right)), ["#"] + ["."] * 62 + ["#"])
            self.assertEqual(shown_floor(moved([(0, 0), (0, 63)], down, right)), ["#" + "." * 62 + "#"])
            self.assertEqual(
                shown_floor(moved([(0, 63), (63, 0)], down, right)),
                ["." * 63 + "#"] + ["." * 64] * 62 + ["#" + "." * 63],
            )
            for far in [[(0, 0), (64, 0)], [(0, 0), (0, 64)], [(0, 64), (1, 0)], [(0, 0), (1, 5), (64, 3)]]:
                with self.subTest(down=down, right=right, far=far):
                    self.assert_refused("TooWide", shown_floor, moved(far, down, right))

    def test_cells_very_far_apart(self):
        for floor in [[(-FAR, 0), (FAR, 0)], [(0, -FAR), (0, FAR)], [(-FAR, -FAR), (FAR, FAR)], [(0, 0), (1, FAR)]]:
            with self.subTest(floor=floor):
                self.assert_refused("TooWide", shown_floor, floor)

    def test_64_cells(self):
        self.assertEqual(shown_floor(block(8, 8, -4, 4)), ["#" * 8] * 8)
        self.assertEqual(shown_floor(block(1, 64, 9, 9)), ["#" * 64])
        self.assertEqual(shown_floor(block(64, 1, -9, -9)), ["#"] * 64)

    def test_what_is_shown_is_read_again(self):
        for floor in subsets(block(3, 3, -1, -1)):
            if floor:
                top, left = min(row for row, _ in floor), min(column for _, column in floor)
                self.assertEqual(read_floor(shown_floor(floor)), moved(floor, -top, -left))
        diagonal = [(at, 63 - at) for at in range(64)]
        self.assertEqual(read_floor(shown_floor(diagonal)), diagonal)

    def test_what_is_read_is_shown_again(self):
        for rows in [
            ["#"], ["#..##", "##..#", ".##..", "....#"], ["#" * 64], ["#"] * 64, ["." * 63 + "#", "#" + "." * 63],
        ]:
            self.assertEqual(shown_floor(read_floor(rows)), rows)

    def test_a_list_of_texts(self):
        told = shown_floor(RING)
        self.assertEqual([type(told)] + [type(row) for row in told], [list, str, str, str])


class TestShownLaying(Refusing, unittest.TestCase):
    def test_none(self):
        self.assertEqual(shown_laying([]), [])

    def test_ordinary_ones(self):
        self.assertEqual(shown_laying([level(0, 0)]), ["<>"])
        self.assertEqual(shown_laying([upright(0, 0)]), ["^", "v"])
        self.assertEqual(shown_laying(WHEEL), ["<>^", "^.v", "v<>"])

    def test_all_rows_are_of_one_length(self):
        self.assertEqual(shown_laying([level(0, 1), upright(2, 4), level(4, 0)]), [
            ".<>..", ".....", "....^", "....v", "<>...",
        ])

    def test_moved_to_the_least_row_and_the_least_column(self):
        for down, right in MOVES:
            with self.subTest(down=down, right=right):
                self.assertEqual(shown_laying(moved_tiles(WHEEL, down, right)), ["<>^", "^.v", "v<>"])
                tiles = moved_tiles([upright(0, 2), level(1, 0)], down, right)
                self.assertEqual(shown_laying(tiles), ["..^", "<>v"])

    def test_64_rows_or_columns_and_65(self):
        for down, right in MOVES:
            for tiles, rows in [
                ([level(0, 0), level(0, 62)], ["<>" + "." * 60 + "<>"]),
                ([upright(0, 0), upright(62, 0)], ["^", "v"] + ["."] * 60 + ["^", "v"]),
                ([level(0, 0), upright(1, 63)], ["<>" + "." * 62, "." * 63 + "^", "." * 63 + "v"]),
                ([upright(0, 0), level(63, 0)], ["^.", "v."] + [".."] * 61 + ["<>"]),
            ]:
                self.assertEqual(shown_laying(moved_tiles(tiles, down, right)), rows)
            for far in [
                [level(0, 0), level(0, 63)], [upright(0, 0), upright(63, 0)], [level(0, 0), upright(1, 64)],
                [upright(0, 0), level(64, 0)],
            ]:
                with self.subTest(down=down, right=right, far=far):
                    self.assert_refused("TooWide", shown_laying, moved_tiles(far, down, right))

    def test_tiles_very_far_apart(self):
        for tiles in [[level(-FAR, 0), level(FAR, 0)], [level(0, -FAR), level(0, FAR)], [level(0, 0), upright(1, FAR)]]:
            with self.subTest(tiles=tiles):
                self.assert_refused("TooWide", shown_laying, tiles)

    def test_what_is_no_laying(self):
        for tiles in NO_LAYINGS:
            with self.subTest(tiles=tiles):
                self.assert_refused("NoLaying", shown_laying, tiles)

    def test_no_laying_is_refused_ahead_of_too_wide(self):
        for tiles in [
            [level(100, 0), level(0, 0)], [level(0, 0), level(0, 100), level(0, 101)],
            [level(0, 0), level(0, 0), level(0, 64)], level_rows(block(1, 66)), [level(FAR, 0), level(-FAR, 0)],
        ]:
            with self.subTest(tiles=tiles):
                self.assert_refused("NoLaying", shown_laying, tiles)

    def test_32_tiles(self):
        self.assertEqual(shown_laying(FULL), ["<>" * 4] * 8)
        self.assertEqual(shown_laying(level_rows(block(1, 64, -5, -5))), ["<>" * 32])

    def test_what_is_shown_is_read_again(self):
        for floor in [RING, block(4, 4), drawn("##.. #### ..##"), drawn("##..## ......  ##..##"), block(2, 5, 3, -9)]:
            top, left = floor[0][0], min(column for _, column in floor)
            for laying in all_layings(floor):
                self.assertEqual(read_laying(shown_laying(laying)), moved_tiles(laying, -top, -left))

    def test_what_is_read_is_shown_again(self):
        for rows in [["<>^", "^.v", "v<>"], ["<>" * 32], ["^", "v"] * 32, ["." * 62 + "<>", "<>" + "." * 62]]:
            self.assertEqual(shown_laying(read_laying(rows)), rows)

    def test_a_list_of_texts(self):
        told = shown_laying(WHEEL)
        self.assertEqual([type(told)] + [type(row) for row in told], [list, str, str, str])


class TestOwnLists(unittest.TestCase):
    def test_what_is_handed_in_stays(self):
        floor, laying = list(RING), list(WHEEL)
        shown_floor(floor)
        shown_laying(laying)
        self.assertEqual((floor, laying), (RING, WHEEL))

    def test_a_changed_answer_changes_no_later_one(self):
        for show, handed in [(shown_floor, RING), (shown_laying, WHEEL), (shown_floor, []), (shown_laying, [])]:
            with self.subTest(show=show.__name__, handed=handed):
                given = list(handed)
                first = show(given)
                kept = list(first)
                self.assertIsNot(first, given)
                first.reverse()
                first.append("x")
                self.assertEqual(given, handed)
                self.assertEqual(show(given), kept)
                self.assertEqual(show(list(handed)), kept)

    def test_a_list_changed_behind_a_call_changes_no_answer(self):
        floor = [(0, 0), (0, 1)]
        first = shown_floor(floor)
        floor.pop()
        self.assertEqual(first, ["##"])
        self.assertEqual(shown_floor(floor), ["#"])


if __name__ == "__main__":
    unittest.main()
