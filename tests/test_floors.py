import itertools
import unittest

from floortwos.errors import NoFloor
from floortwos.floors import corners_of, gathered, is_inner, sides_of
from helpers import FAR, block, subsets

RING = [cell for cell in block(3, 3) if cell != (1, 1)]
STRANGE = [
    (True, 0), (0, False), (1, True), [0, 0], [1, 0], (0,), (0, 0, 0), (), [], "00", "", ("0", 0), (0, "0"),
    None, (None, 0), 0, True, {}, {0: 0}, {0, 1}, b"ab", ((0, 0), (0, 1)), [(0, 0)], ([0], 0), object(), len,
]


def small_floors():
    """All floors within three rows and three columns, around (0, 0)."""
    return subsets(block(3, 3, -1, -1))


def borders(cell):
    """The sides of a cell, each as the pair of its sorted corners."""
    row, column = cell
    round_it = [(row, column), (row, column + 1), (row + 1, column + 1), (row + 1, column)]
    return [tuple(sorted([round_it[at - 1], round_it[at]])) for at in range(4)]


class TestGathered(unittest.TestCase):
    def test_any_order(self):
        for handed in itertools.permutations([(0, 1), (-1, 5), (0, 0), (2, -3)]):
            self.assertEqual(gathered(list(handed)), [(-1, 5), (0, 0), (0, 1), (2, -3)])

    def test_more_than_once(self):
        self.assertEqual(gathered([(1, 1), (0, 0), (1, 1), (0, 0), (1, 1)]), [(0, 0), (1, 1)])

    def test_none(self):
        self.assertEqual(gathered([]), [])

    def test_one(self):
        self.assertEqual(gathered([(-7, 4)]), [(-7, 4)])

    def test_rows_come_ahead_of_columns(self):
        self.assertEqual(gathered([(1, -9), (0, 9), (10, 0), (2, 0)]), [(0, 9), (1, -9), (2, 0), (10, 0)])

    def test_far_away(self):
        self.assertEqual(gathered([(FAR, -FAR), (-FAR, FAR), (FAR, -FAR)]), [(-FAR, FAR), (FAR, -FAR)])

    def test_cells_need_not_hang_together(self):
        self.assertEqual(gathered([(100, 100), (0, 0)]), [(0, 0), (100, 100)])

    def test_just_64(self):
        for floor in [block(8, 8), block(1, 64), block(64, 1, -70, -70)]:
            self.assertEqual(gathered(floor[::-1]), floor)

    def test_65_and_more(self):
        for cells in [block(5, 13), block(1, 65), block(65, 1), block(9, 9), block(40, 40)]:
            with self.subTest(many=len(cells)), self.assertRaises(NoFloor):
                gathered(cells)
            with self.subTest(many=len(cells)), self.assertRaises(NoFloor):
                gathered(cells[::-1])

    def test_65_different_among_more_things(self):
        with self.assertRaises(NoFloor):
            gathered(block(8, 8) + block(8, 8) + [(8, 0)])

    def test_many_things_of_which_few_are_different(self):
        self.assertEqual(gathered([(3, 3)] * 65), [(3, 3)])
        self.assertEqual(gathered(block(8, 8) + [(0, 0)]), block(8, 8))
        self.assertEqual(gathered(block(8, 8)[::-1] * 5), block(8, 8))

    def test_a_thing_that_is_no_cell_at_any_place(self):
        for number, thing in enumerate(STRANGE):
            for at in range(4):
                handed = [(0, 0), (0, 1), (1, 0)]
                handed.insert(at, thing)
                with self.subTest(number=number, at=at), self.assertRaises(NoFloor):
                    gathered(handed)

    def test_a_thing_that_is_no_cell_alone(self):
        for number, thing in enumerate(STRANGE):
            with self.subTest(number=number), self.assertRaises(NoFloor):
                gathered([thing])

    def test_a_thing_that_is_no_cell_among_64_and_more(self):
        for cells in [block(8, 8), block(9, 9), block(8, 8) * 2]:
            for thing in [(True, 0), [0, 0], None]:
                for handed in [[thing] + cells, cells[:30] + [thing] + cells[30:], cells + [thing]]:
                    with self.assertRaises(NoFloor):
                        gathered(handed)

    def test_truth_beside_the_cell_it_equals(self):
        for handed in [[(1, 0), (True, 0)], [(True, 0), (1, 0)], [(0, 1), (False, 1)], [(1, 0), (1, False)]]:
            with self.subTest(handed=handed), self.assertRaises(NoFloor):
                gathered(handed)

    def test_a_refusal_leaves_the_list_as_it_was(self):
        handed = [(1, 0), (0, 0), (1, 0), None]
        with self.assertRaises(NoFloor):
            gathered(handed)
        self.assertEqual(handed, [(1, 0), (0, 0), (1, 0), None])
        wide = block(9, 9)[::-1]
        with self.assertRaises(NoFloor):
            gathered(wide)
        self.assertEqual(wide, block(9, 9)[::-1])

    def test_a_floor_is_a_list_of_tuples(self):
        floor = gathered([(0, 1), (0, 0)])
        self.assertEqual([type(floor), type(floor[0]), type(floor[1])], [list, tuple, tuple])


class TestCorners(unittest.TestCase):
    def test_none(self):
        self.assertEqual(corners_of([]), [])

    def test_one_cell(self):
        self.assertEqual(corners_of([(0, 0)]), [(0, 0), (0, 1), (1, 0), (1, 1)])
        self.assertEqual(corners_of([(-3, 5)]), [(-3, 5), (-3, 6), (-2, 5), (-2, 6)])
        self.assertEqual(corners_of([(-1, -1)]), [(-1, -1), (-1, 0), (0, -1), (0, 0)])

    def test_two_cells_with_one_corner_in_common(self):
        self.assertEqual(
            corners_of([(0, 0), (1, 1)]),
            [(0, 0), (0, 1), (1, 0), (1, 1), (1, 2), (2, 1), (2, 2)],
        )
        self.assertEqual(
            corners_of([(0, 1), (1, 0)]),
            [(0, 1), (0, 2), (1, 0), (1, 1), (1, 2), (2, 0), (2, 1)],
        )

    def test_a_ring_has_the_corners_of_its_hole(self):
        self.assertEqual(corners_of(RING), block(4, 4))

    def test_far_away(self):
        self.assertEqual(
            corners_of([(-FAR, FAR)]),
            [(-FAR, FAR), (-FAR, FAR + 1), (1 - FAR, FAR), (1 - FAR, FAR + 1)],
        )

    def test_64_cells(self):
        self.assertEqual(corners_of(block(8, 8, -4, 20)), block(9, 9, -4, 20))
        self.assertEqual(len(corners_of([(3 * at, 0) for at in range(64)])), 256)

    def test_small_floors(self):
        for floor in small_floors():
            told = corners_of(floor)
            near = [(row, column) for row in range(-3, 5) for column in range(-3, 5)]
            wanted = [
                (row, column) for row, column in near
                if any(cell in floor for cell in block(2, 2, row - 1, column - 1))
            ]
            self.assertEqual(told, wanted)


class TestSides(unittest.TestCase):
    def test_none(self):
        self.assertEqual(sides_of([]), [])

    def test_one_cell(self):
        self.assertEqual(
            sides_of([(0, 0)]),
            [((0, 0), (0, 1)), ((0, 0), (1, 0)), ((0, 1), (1, 1)), ((1, 0), (1, 1))],
        )
        self.assertEqual(
            sides_of([(-1, -2)]),
            [((-1, -2), (-1, -1)), ((-1, -2), (0, -2)), ((-1, -1), (0, -1)), ((0, -2), (0, -1))],
        )

    def test_two_neighbours_have_one_side_in_common(self):
        self.assertEqual(
            sides_of([(2, 3), (2, 4)]),
            [
                ((2, 3), (2, 4)), ((2, 3), (3, 3)), ((2, 4), (2, 5)), ((2, 4), (3, 4)),
                ((2, 5), (3, 5)), ((3, 3), (3, 4)), ((3, 4), (3, 5)),
            ],
        )

    def test_two_cells_with_one_corner_in_common(self):
        self.assertEqual(
            sides_of([(0, 0), (1, 1)]),
            [
                ((0, 0), (0, 1)), ((0, 0), (1, 0)), ((0, 1), (1, 1)), ((1, 0), (1, 1)),
                ((1, 1), (1, 2)), ((1, 1), (2, 1)), ((1, 2), (2, 2)), ((2, 1), (2, 2)),
            ],
        )

    def test_how_many(self):
        self.assertEqual(len(sides_of(RING)), 24)
        self.assertEqual(len(sides_of(block(8, 8))), 144)
        self.assertEqual(len(sides_of([(3 * at, 0) for at in range(64)])), 256)

    def test_far_away(self):
        self.assertEqual(
            sides_of([(FAR, -FAR)]),
            [
                ((FAR, -FAR), (FAR, 1 - FAR)), ((FAR, -FAR), (FAR + 1, -FAR)),
                ((FAR, 1 - FAR), (FAR + 1, 1 - FAR)), ((FAR + 1, -FAR), (FAR + 1, 1 - FAR)),
            ],
        )

    def test_small_floors(self):
        for floor in small_floors():
            wanted = sorted({side for cell in floor for side in borders(cell)})
            self.assertEqual(sides_of(floor), wanted)

    def test_a_side_is_a_tuple_of_tuples(self):
        side = sides_of([(0, 0)])[0]
        self.assertEqual([type(side), type(side[0]), type(side[1])], [tuple] * 3)


class TestIsInner(unittest.TestCase):
    def test_one_cell_has_none(self):
        for side in sides_of([(-1, 4)]):
            with self.subTest(side=side):
                self.assertIs(is_inner([(-1, 4)], side), False)

    def test_between_two_neighbours(self):
        self.assertIs(is_inner([(0, 0), (0, 1)], ((0, 1), (1, 1))), True)
        self.assertIs(is_inner([(0, 0), (1, 0)], ((1, 0), (1, 1))), True)
        self.assertIs(is_inner([(-1, -1), (0, -1)], ((0, -1), (0, 0))), True)

    def test_two_cells_with_one_corner_in_common_have_none(self):
        for floor in [[(0, 0), (1, 1)], [(0, 1), (1, 0)]]:
            for side in sides_of(floor):
                self.assertIs(is_inner(floor, side), False)

    def test_round_a_hole_is_the_rim(self):
        for side in borders((1, 1)):
            self.assertIs(is_inner(RING, side), False)
        self.assertEqual(len([side for side in sides_of(RING) if is_inner(RING, side)]), 8)

    def test_far_away(self):
        floor = [(FAR, -FAR), (FAR, 1 - FAR)]
        self.assertIs(is_inner(floor, ((FAR, 1 - FAR), (FAR + 1, 1 - FAR))), True)
        self.assertIs(is_inner(floor, ((FAR, 1 - FAR), (FAR, 2 - FAR))), False)

    def test_64_cells(self):
        floor = block(8, 8, -3, -50)
        self.assertEqual(len([side for side in sides_of(floor) if is_inner(floor, side)]), 112)

    def test_small_floors(self):
        for floor in small_floors():
            all_borders = [side for cell in floor for side in borders(cell)]
            for side in all_borders:
                self.assertIs(is_inner(floor, side), all_borders.count(side) == 2)


class TestOwnLists(unittest.TestCase):
    def test_a_floor_is_no_list_that_was_handed_in(self):
        handed = [(0, 0), (0, 1)]
        floor = gathered(handed)
        self.assertIsNot(floor, handed)
        floor.append((9, 9))
        self.assertEqual(handed, [(0, 0), (0, 1)])
        self.assertEqual(gathered(handed), [(0, 0), (0, 1)])

    def test_the_empty_floor_is_made_anew(self):
        gathered([]).append((0, 0))
        self.assertEqual(gathered([]), [])
        self.assertEqual((corners_of([]), sides_of([])), ([], []))
        corners_of([]).append((0, 0))
        sides_of([]).append(((0, 0), (0, 1)))
        self.assertEqual((corners_of([]), sides_of([])), ([], []))

    def test_what_is_handed_in_stays(self):
        handed = [(1, 0), (0, 0), (1, 0)]
        gathered(handed)
        self.assertEqual(handed, [(1, 0), (0, 0), (1, 0)])
        floor = list(RING)
        corners_of(floor)
        for side in sides_of(floor):
            is_inner(floor, side)
        self.assertEqual(floor, RING)

    def test_a_changed_answer_changes_no_later_one(self):
        for told in (gathered, corners_of, sides_of):
            with self.subTest(told=told.__name__):
                floor = list(RING)
                first = told(floor)
                kept = list(first)
                first.reverse()
                first.pop()
                self.assertEqual(floor, RING)
                self.assertEqual(told(floor), kept)
                self.assertEqual(told(list(RING)), kept)

    def test_a_list_changed_behind_a_call_changes_no_answer(self):
        for told in (gathered, corners_of, sides_of):
            with self.subTest(told=told.__name__):
                floor = [(0, 0), (5, 5)]
                first = told(floor)
                kept = list(first)
                floor.pop()
                self.assertEqual(first, kept)
                self.assertEqual(told(floor), told([(0, 0)]))
                self.assertEqual(told([(0, 0), (5, 5)]), kept)

    def test_inner_follows_the_floor_as_it_is_now(self):
        floor = [(0, 0), (0, 1)]
        side = ((0, 1), (1, 1))
        self.assertIs(is_inner(floor, side), True)
        floor.pop()
        self.assertIs(is_inner(floor, side), False)


if __name__ == "__main__":
    unittest.main()
