import unittest

from floortwos.cells import beside, is_cell, is_dark, is_level, tile_of
from floortwos.errors import NoTile

FAR = 10 ** 60 - 1


class Sulky:
    """A thing that answers no question."""

    def __eq__(self, other):
        raise RuntimeError("not compared")

    def __len__(self):
        raise RuntimeError("not counted")

    def __bool__(self):
        raise RuntimeError("not tested")

    def __getitem__(self, at):
        raise RuntimeError("not read")


def strange_things():
    loop = []
    loop.append(loop)
    return [
        (True, 0), (0, False), (True, False), [0, 0], (0,), (0, 0, 0), (), [],
        "", "00", "(0, 0)", ("0", 0), (0, "0"), ("0", "0"), (None, 0), (0, None), (None, None),
        ((0, 0), (0, 1)), ((0,), 0), ([0], 0), (0, [0]), [(0, 0)], ((0, 0),), (0, {}), (set(), 0),
        None, 0, -7, True, False, b"", b"ab", (b"0", b"0"), {}, {0: 0, 1: 1}, {0, 1}, frozenset((0, 1)),
        range(2), iter((0, 0)), object(), int, tuple, len, loop, (loop, loop), Sulky(), (Sulky(), 0), (0, Sulky()),
    ]


class TestIsCell(unittest.TestCase):
    def test_pairs_of_whole_numbers_are_cells(self):
        for cell in [(0, 0), (3, 5), (-1, 0), (0, -1), (-4, -9), (FAR, FAR), (-FAR, FAR), (FAR, -FAR), (1, 0)]:
            with self.subTest(cell=cell):
                self.assertIs(is_cell(cell), True)

    def test_other_things_are_none(self):
        for at, thing in enumerate(strange_things()):
            with self.subTest(at=at):
                self.assertIs(is_cell(thing), False)

    def test_true_and_false_are_no_numbers_in_either_place(self):
        for truth in (True, False):
            for number in (-2, 0, 1, FAR):
                with self.subTest(truth=truth, number=number):
                    self.assertIs(is_cell((truth, number)), False)
                    self.assertIs(is_cell((number, truth)), False)

    def test_a_list_that_is_asked_about_stays(self):
        thing = [0, 0]
        is_cell(thing)
        self.assertEqual(thing, [0, 0])


class TestIsDark(unittest.TestCase):
    def test_dark_where_the_sum_is_even(self):
        for cell in [(0, 0), (1, 1), (0, 2), (2, 0), (-1, 1), (1, -1), (-1, -1), (-3, -5), (-2, 4), (FAR, FAR)]:
            with self.subTest(cell=cell):
                self.assertIs(is_dark(cell), True)

    def test_light_where_it_is_odd(self):
        for cell in [(0, 1), (1, 0), (-1, 0), (0, -1), (-2, 3), (-3, -4), (FAR, 0), (-FAR, 10 ** 59)]:
            with self.subTest(cell=cell):
                self.assertIs(is_dark(cell), False)

    def test_neighbours_have_the_other_colour(self):
        for row in range(-3, 4):
            for column in range(-3, 4):
                for near in beside((row, column)):
                    self.assertIs(is_dark(near), not is_dark((row, column)))


class TestBeside(unittest.TestCase):
    def test_above_left_right_below(self):
        self.assertEqual(beside((3, 7)), [(2, 7), (3, 6), (3, 8), (4, 7)])

    def test_across_nought(self):
        self.assertEqual(beside((0, 0)), [(-1, 0), (0, -1), (0, 1), (1, 0)])
        self.assertEqual(beside((-1, -1)), [(-2, -1), (-1, -2), (-1, 0), (0, -1)])

    def test_far_away(self):
        self.assertEqual(
            beside((FAR, -FAR)),
            [(FAR - 1, -FAR), (FAR, -FAR - 1), (FAR, 1 - FAR), (FAR + 1, -FAR)],
        )

    def test_a_sorted_list_of_tuples(self):
        near = beside((-5, 9))
        self.assertIs(type(near), list)
        self.assertEqual(near, sorted(near))
        self.assertEqual([type(cell) for cell in near], [tuple] * 4)


class TestTileOf(unittest.TestCase):
    def test_either_order(self):
        for tile in [((2, 3), (2, 4)), ((2, 3), (3, 3)), ((-1, 0), (0, 0)), ((0, -1), (0, 0)), ((-3, -3), (-3, -2))]:
            with self.subTest(tile=tile):
                self.assertEqual(tile_of(tile[0], tile[1]), tile)
                self.assertEqual(tile_of(tile[1], tile[0]), tile)

    def test_far_away(self):
        self.assertEqual(tile_of((FAR, -FAR), (FAR - 1, -FAR)), ((FAR - 1, -FAR), (FAR, -FAR)))
        self.assertEqual(tile_of((-FAR, FAR), (-FAR, FAR - 1)), ((-FAR, FAR - 1), (-FAR, FAR)))
        with self.assertRaises(NoTile):
            tile_of((FAR, FAR), (FAR - 2, FAR))

    def test_a_tuple_of_tuples(self):
        tile = tile_of((0, 1), (0, 0))
        self.assertEqual([type(tile), type(tile[0]), type(tile[1])], [tuple] * 3)

    def test_a_cell_and_itself_are_none(self):
        for cell in [(0, 0), (4, -2), (-FAR, FAR)]:
            with self.subTest(cell=cell), self.assertRaises(NoTile):
                tile_of(cell, cell)

    def test_cells_at_a_corner_or_two_steps_apart_are_none(self):
        for other in [(-1, -1), (-1, 1), (1, -1), (1, 1), (-2, 0), (2, 0), (0, -2), (0, 2), (1, 2), (1, -2)]:
            with self.subTest(other=other):
                with self.assertRaises(NoTile):
                    tile_of((0, 0), other)
                with self.assertRaises(NoTile):
                    tile_of(other, (0, 0))

    def test_cells_of_like_rows_or_columns_far_apart_are_none(self):
        for other in [(5, 1000), (-1000, 5), (6, 4), (-5, -5)]:
            with self.subTest(other=other), self.assertRaises(NoTile):
                tile_of((5, 5), other)

    def test_just_the_neighbours_in_a_window(self):
        one = (-2, 1)
        for row in range(-6, 3):
            for column in range(-3, 6):
                other = (row, column)
                with self.subTest(other=other):
                    if abs(row + 2) + abs(column - 1) == 1:
                        self.assertEqual(tile_of(one, other), tuple(sorted([one, other])))
                    else:
                        with self.assertRaises(NoTile):
                            tile_of(one, other)


class TestIsLevel(unittest.TestCase):
    def test_level_where_both_have_one_row(self):
        for tile in [((0, 0), (0, 1)), ((5, 5), (5, 6)), ((-3, -1), (-3, 0)), ((FAR, -FAR), (FAR, 1 - FAR))]:
            with self.subTest(tile=tile):
                self.assertIs(is_level(tile), True)

    def test_else_upright(self):
        for tile in [((0, 0), (1, 0)), ((5, 5), (6, 5)), ((-1, -3), (0, -3)), ((-FAR, FAR), (1 - FAR, FAR))]:
            with self.subTest(tile=tile):
                self.assertIs(is_level(tile), False)


class TestOwnLists(unittest.TestCase):
    def test_a_changed_answer_changes_no_later_one(self):
        first = beside((0, 0))
        first.append((9, 9))
        first[0] = None
        second = beside((0, 0))
        self.assertEqual(second, [(-1, 0), (0, -1), (0, 1), (1, 0)])
        self.assertIsNot(first, second)

    def test_tiles_are_told_the_same_behind_a_changed_answer(self):
        beside((0, 0)).clear()
        self.assertEqual(tile_of((0, 0), (0, 1)), ((0, 0), (0, 1)))

    def test_a_refusal_changes_no_later_answer(self):
        with self.assertRaises(NoTile):
            tile_of((0, 0), (0, 0))
        self.assertEqual(tile_of((1, 0), (0, 0)), ((0, 0), (1, 0)))


if __name__ == "__main__":
    unittest.main()
