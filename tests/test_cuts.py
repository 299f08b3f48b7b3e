import random
import unittest

from floortwos.counts import by_cases
from floortwos.cuts import by_cut, cut_at
from floortwos.layings import places_of
from helpers import EVEN_BUT_SHORT, FAR, JOINED, RING, Refusing, block, drawn, subsets, upright

FLOORS = [
    [], [(0, 0)], [(-5, 3)], block(1, 2), block(2, 1), block(3, 3, -1, -1), block(4, 4, -2, 5), RING, block(8, 8),
    drawn("##.# .### #..."), block(2, 2) + block(2, 2, FAR, 3), block(64, 1, -32, 0), drawn("#### #..# ####", -3, -3),
    block(1, 8) + block(1, 8, 3, 0),
]


def rows_about(floor):
    """Rows above, through and below the floor, and far away."""
    rows = {row + more for row, column in floor for more in (-1, 0, 1, 2)} | {0, 1, -1, FAR, -FAR, 10 ** 60}
    return sorted(rows)


class TestCutAt(unittest.TestCase):
    def look_at(self, floor, row):
        told = cut_at(floor, row)
        self.assertIs(type(told), tuple)
        self.assertEqual([type(part) for part in told], [list, list, list])
        upper, lower, places = told
        self.assertEqual(upper, [cell for cell in floor if cell[0] < row])
        self.assertEqual(lower, [cell for cell in floor if cell[0] >= row])
        self.assertEqual(places, sorted([
            upright(row - 1, column) for down, column in upper if down == row - 1 and (row, column) in lower
        ]))
        self.assertEqual(places, [
            place for place in places_of(floor) if len([cell for cell in place if cell in upper]) == 1
        ])

    def test_a_square(self):
        floor = block(2, 2)
        self.assertEqual(cut_at(floor, 1), ([(0, 0), (0, 1)], [(1, 0), (1, 1)], [upright(0, 0), upright(0, 1)]))
        for row in [0, -1, -FAR]:
            self.assertEqual(cut_at(floor, row), ([], floor, []))
        for row in [2, 3, FAR]:
            self.assertEqual(cut_at(floor, row), (floor, [], []))

    def test_no_cell(self):
        for row in [0, 1, -1, FAR, None]:
            self.assertEqual(cut_at([], row), ([], [], []))
        self.assertEqual(cut_at([]), ([], [], []))

    def test_each_row(self):
        for floor in FLOORS + EVEN_BUT_SHORT + [JOINED, block(1, 64), block(2, 32, -FAR, FAR)]:
            for row in rows_about(floor):
                self.look_at(floor, row)

    def test_without_a_row(self):
        for floor in FLOORS + [block(2, 2, -1, 0), block(2, 2, 5, 5), block(2, 2, FAR, 0), JOINED]:
            self.assertEqual(cut_at(floor), ([], floor, []))
            self.assertEqual(cut_at(floor, None), ([], floor, []))

    def test_row_0_is_a_row(self):
        floor = block(2, 2, -1, 0)
        self.assertEqual(cut_at(floor, 0), ([(-1, 0), (-1, 1)], [(0, 0), (0, 1)], [upright(-1, 0), upright(-1, 1)]))

    def test_no_floor_is_too_wide(self):
        self.assertEqual(cut_at([(0, -FAR), (1, -FAR), (1, FAR)], 1), (
            [(0, -FAR)], [(1, -FAR), (1, FAR)], [upright(0, -FAR)],
        ))


class TestByCut(Refusing, unittest.TestCase):
    def test_no_cell_and_few_cells(self):
        for row in [0, 1, -1, FAR, None]:
            self.assertEqual(by_cut([], row), 1)
            self.assertEqual(by_cut([(0, 0)], row), 0)
            self.assertEqual(by_cut(block(1, 2), row), 1)
            self.assertEqual(by_cut(block(2, 1), row), 1)
            self.assertEqual(by_cut(block(2, 2), row), 2)
        self.assertEqual((by_cut([]), by_cut([(0, 0)]), by_cut(block(2, 2))), (1, 0, 2))

    def test_eight_by_eight(self):
        for row in [None, -FAR, *range(-1, 10), FAR]:
            self.assertEqual(by_cut(block(8, 8), row), 12988816)
        self.assertEqual(by_cut(block(8, 8)), 12988816)
        for row in [FAR + 3, FAR + 4, 0]:
            self.assertEqual(by_cut(block(8, 8, FAR, -FAR), row), 12988816)

    def test_each_row(self):
        for floor in FLOORS:
            many = by_cases(floor)
            for row in rows_about(floor) + [None]:
                told = by_cut(floor, row)
                self.assertIs(type(told), int)
                self.assertEqual(told, many, (floor, row))
            self.assertEqual(by_cut(floor), many)

    def test_small_floors(self):
        for floor in subsets(block(4, 3, -2, -1)):
            many = by_cases(floor)
            self.assertEqual([by_cut(floor, row) for row in range(-2, 3)], [many] * 5)

    def test_random_ones(self):
        chance = random.Random(95)
        for _ in range(40):
            floor = sorted(chance.sample(block(10, 8, -5, -4), chance.randrange(30, 65)))
            many = by_cases(floor)
            for row in range(-6, 7):
                self.assertEqual(by_cut(floor, row), many)
        floor = block(9, 8, -4, -4)
        for cell in chance.sample([cell for cell in floor if sum(cell) % 2], 4) + [(-4, -4), (4, -4), (4, 2), (2, 2)]:
            floor.remove(cell)
        many = by_cases(floor)
        self.assertGreater(many, 0)
        self.assertEqual([by_cut(floor, row) for row in range(-5, 7)], [many] * 12)

    def test_too_wide(self):
        for floor in [block(1, 9), block(2, 9), block(1, 10), [(0, 0), (0, 8)], [(0, -4), (1, 4)], JOINED]:
            for row in [None, 0, 1, -1, FAR]:
                self.assert_refused("TooWide", by_cut, floor, row)
            self.assert_refused("TooWide", by_cut, floor)

    def test_too_wide_though_both_are_narrow(self):
        for floor in [
            block(2, 2) + block(2, 2, 2, 7), block(2, 2, 0, 7) + block(2, 2, 5, 0), [(0, FAR), (1, -FAR)],
            block(4, 8) + block(4, 8, FAR, 1), block(1, 2) + block(1, 2, 1, 7),
        ]:
            for row in [0, 1, 2, 3, 4, 5, None, FAR]:
                self.assert_refused("TooWide", by_cut, floor, row)
        self.assertEqual(by_cut(block(2, 2) + block(2, 2, 2, 6), 2), 4)
        self.assertEqual(by_cut(block(4, 8) + block(4, 8, FAR, 0), 2), 2245 ** 2)


class TestOwnLists(unittest.TestCase):
    def test_what_is_handed_in_stays(self):
        for floor in FLOORS:
            handed = list(floor)
            for row in [None, 0, 1, 4]:
                cut_at(handed, row)
                by_cut(handed, row)
            self.assertEqual(handed, floor)

    def test_a_changed_answer_changes_no_later_one(self):
        for floor in [[], block(4, 4), block(2, 2, -1, 0)]:
            for row in [None, -FAR, 0, 2, FAR]:
                handed = list(floor)
                first = cut_at(handed, row)
                kept = tuple(list(part) for part in first)
                for part in first:
                    self.assertIsNot(part, handed)
                    part.reverse()
                    part.append((9, 9))
                self.assertEqual(handed, floor)
                self.assertEqual(cut_at(handed, row), kept)
                self.assertEqual(cut_at(list(floor), row), kept)

    def test_no_two_told_lists_are_one(self):
        upper, lower, places = cut_at([], 0)
        upper.append((0, 0))
        self.assertEqual((lower, places), ([], []))
        lower.append((0, 0))
        self.assertEqual(places, [])

    def test_a_list_changed_behind_a_call_changes_no_answer(self):
        floor = block(2, 2)
        told = cut_at(floor, 1)
        floor.clear()
        self.assertEqual(told, (block(1, 2), block(1, 2, 1, 0), [upright(0, 0), upright(0, 1)]))
        self.assertEqual(by_cut(floor, 1), 1)


if __name__ == "__main__":
    unittest.main()
