import unittest

from floortwos.floors import holes_in, parts_of
from helpers import FAR, block, drawn, subsets


def small_floors():
    """All floors within three rows and four columns, around (0, 0)."""
    return subsets(block(3, 4, -1, -2))


def hang(one, other):
    return abs(one[0] - other[0]) < 2 and abs(one[1] - other[1]) < 2


def pieces(cells, together):
    """The cells in sorted pieces, by joining all pieces that a next cell comes to."""
    told = []
    for cell in cells:
        joined = [piece for piece in told if any(together(cell, other) for other in piece)]
        told = [piece for piece in told if piece not in joined]
        told.append(sorted([cell] + [other for piece in joined for other in piece]))
    return sorted(told)


def closed_in(floor):
    """How many pieces of other cells, side by side, the floor closes in: those that miss the frame round it."""
    if not floor:
        return 0
    top, bottom = min(row for row, _ in floor) - 1, max(row for row, _ in floor) + 1
    left, right = min(column for _, column in floor) - 1, max(column for _, column in floor) + 1
    others = [(r, c) for r in range(top, bottom + 1) for c in range(left, right + 1) if (r, c) not in floor]
    steps = pieces(others, lambda one, other: abs(one[0] - other[0]) + abs(one[1] - other[1]) == 1)
    return len([piece for piece in steps if (top, left) not in piece])


RING = drawn("### #.# ###")
DIAMOND = drawn(".#. #.# .#.")
EYE = drawn("##### #...# #.#.# #...# #####")
NESTED = drawn("####### #.....# #.###.# #.#.#.# #.###.# #.....# #######")
CHECKED = [(row, column) for row in range(8) for column in range(16) if (row + column) % 2 == 0]
FRAME = [(row, column) for row in range(17) for column in range(17) if row in (0, 16) or column in (0, 16)]


class TestParts(unittest.TestCase):
    def test_none(self):
        self.assertEqual(parts_of([]), [])

    def test_one_cell(self):
        self.assertEqual(parts_of([(-4, 2)]), [[(-4, 2)]])

    def test_a_corner_in_common_is_enough(self):
        self.assertEqual(parts_of([(0, 0), (1, 1)]), [[(0, 0), (1, 1)]])
        self.assertEqual(parts_of([(0, 1), (1, 0)]), [[(0, 1), (1, 0)]])
        self.assertEqual(parts_of([(-1, -1), (0, 0)]), [[(-1, -1), (0, 0)]])

    def test_two_steps_apart_are_two(self):
        for other in [(0, 2), (2, 0), (2, 2), (1, 2), (2, 1), (1, -2), (2, -1), (2, -2)]:
            with self.subTest(other=other):
                self.assertEqual(parts_of([(0, 0), other]), [[(0, 0)], [other]])

    def test_in_the_order_of_their_first_cells(self):
        self.assertEqual(
            parts_of(drawn("#.#.# #...# #.#.# ..###")),
            [
                [(0, 0), (1, 0), (2, 0)],
                [(0, 2)],
                [(0, 4), (1, 4), (2, 2), (2, 4), (3, 2), (3, 3), (3, 4)],
            ],
        )

    def test_the_greater_part_may_come_last(self):
        self.assertEqual(
            parts_of([(0, 9), (1, 0), (1, 9), (2, 0), (2, 1)]),
            [[(0, 9), (1, 9)], [(1, 0), (2, 0), (2, 1)]],
        )

    def test_a_part_that_comes_together_late(self):
        floor = drawn("#.#.# #.#.# #####")
        self.assertEqual(parts_of(floor), [floor])

    def test_parts_within_a_hole(self):
        self.assertEqual(parts_of(EYE), [[cell for cell in EYE if cell != (2, 2)], [(2, 2)]])
        inner = [cell for cell in NESTED if 2 <= cell[0] <= 4 and 2 <= cell[1] <= 4]
        self.assertEqual(parts_of(NESTED), [[cell for cell in NESTED if cell not in inner], inner])

    def test_far_away(self):
        near = [(-FAR, FAR), (1 - FAR, FAR + 1)]
        self.assertEqual(parts_of(near + [(FAR, -FAR)]), [near, [(FAR, -FAR)]])

    def test_64_cells(self):
        for floor in [CHECKED, FRAME, [(at, at) for at in range(64)], [(at, -at) for at in range(64)]]:
            self.assertEqual(len(floor), 64)
            self.assertEqual(parts_of(floor), [floor])
        single = [(2 * row, 2 * column) for row in range(-4, 4) for column in range(8)]
        self.assertEqual(parts_of(single), [[cell] for cell in single])

    def test_small_floors(self):
        for floor in small_floors():
            self.assertEqual(parts_of(floor), pieces(floor, hang))


class TestHoles(unittest.TestCase):
    def test_floors_without(self):
        for floor in [
            [], [(0, 0)], [(0, 0), (1, 1)], [(0, 1), (1, 0)], [(0, 0), (9, 9)], drawn("## ##"),
            drawn("### #.# #.#"), drawn("### #.. ###"), drawn("#.# .#. #.#"), drawn("#..# .##. #..#"),
        ]:
            with self.subTest(floor=floor):
                self.assertEqual(holes_in(floor), 0)

    def test_a_ring_has_one(self):
        for floor in [RING, DIAMOND, drawn("#### #..# ####"), drawn(".##. #..# .##."), FRAME]:
            with self.subTest(floor=floor):
                self.assertEqual(holes_in(floor), 1)

    def test_other_cells_at_a_corner_are_two_pieces(self):
        self.assertEqual(holes_in(drawn("#### #.## ##.# ####")), 2)
        self.assertEqual(holes_in(drawn(".#.. #.#. .#.# ..#.")), 2)

    def test_several(self):
        self.assertEqual(holes_in(drawn("##### #.#.# ##### #.#.# #####")), 4)
        self.assertEqual(holes_in(drawn("###..### #.#..#.# ###..###")), 2)

    def test_parts_within_a_hole(self):
        self.assertEqual(holes_in(EYE), 1)
        self.assertEqual(holes_in(NESTED), 2)
        self.assertEqual(holes_in(drawn("####### #.....# #.#.#.# #.....# #######")), 1)

    def test_far_away(self):
        for down, right in [(-1, -1), (-5, 3), (7, -2), (FAR, -FAR), (-FAR, FAR), (-FAR, -FAR)]:
            with self.subTest(down=down, right=right):
                self.assertEqual(holes_in([(r + down, c + right) for r, c in RING]), 1)
                self.assertEqual(holes_in([(r + down, c + right) for r, c in NESTED]), 2)
        self.assertEqual(holes_in([(-FAR, FAR), (FAR, -FAR)]), 0)

    def test_64_cells(self):
        self.assertEqual(holes_in([(row, column) for row in range(8) for column in range(8)]), 0)
        self.assertEqual(holes_in([(at, at) for at in range(64)]), 0)
        self.assertEqual(holes_in(CHECKED), closed_in(CHECKED))
        self.assertEqual(holes_in(CHECKED), 42)

    def test_small_floors(self):
        for floor in small_floors():
            self.assertEqual(holes_in(floor), closed_in(floor))

    def test_a_whole_number(self):
        self.assertIs(type(holes_in(RING)), int)
        self.assertIs(type(holes_in([])), int)


class TestOwnLists(unittest.TestCase):
    def test_no_part_is_a_list_that_was_handed_in(self):
        floor = list(RING)
        parts = parts_of(floor)
        self.assertIsNot(parts, floor)
        self.assertIsNot(parts[0], floor)
        parts[0].pop()
        self.assertEqual(floor, RING)

    def test_a_changed_answer_changes_no_later_one(self):
        floor = list(EYE)
        first = parts_of(floor)
        first[0].clear()
        first[1].append((9, 9))
        first.pop()
        self.assertEqual(floor, EYE)
        self.assertEqual(parts_of(floor), [[cell for cell in EYE if cell != (2, 2)], [(2, 2)]])
        self.assertEqual(holes_in(floor), 1)

    def test_a_changed_part_changes_no_other_part(self):
        parts = parts_of([(0, 0), (0, 5), (0, 9)])
        parts[0].append((9, 9))
        self.assertEqual(parts[1:], [[(0, 5)], [(0, 9)]])

    def test_the_answer_for_no_cells_is_made_anew(self):
        parts_of([]).append([(0, 0)])
        self.assertEqual(parts_of([]), [])

    def test_a_list_changed_behind_a_call_changes_no_answer(self):
        floor = list(RING)
        parts = parts_of(floor)
        self.assertEqual(holes_in(floor), 1)
        floor.remove((1, 0))
        self.assertEqual(parts, [RING])
        self.assertEqual(holes_in(floor), 0)
        self.assertEqual(parts_of(floor), [floor])
        self.assertEqual(holes_in(RING), 1)

    def test_what_is_handed_in_stays(self):
        floor = list(NESTED)
        parts_of(floor)
        holes_in(floor)
        self.assertEqual(floor, NESTED)


if __name__ == "__main__":
    unittest.main()
