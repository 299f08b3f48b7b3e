import random
import unittest

from floortwos.counts import by_cases, by_rows
from floortwos.lay import lay_floor
from helpers import (
    EVEN_BUT_SHORT, FAR, JOINED, RING, Refusing, all_layings, block, drawn, laid_at_random, moved, subsets,
)

BOTH = [by_cases, by_rows]
# By rows and columns.
KNOWN = {
    (1, 1): 0, (1, 2): 1, (2, 1): 1, (1, 8): 1, (8, 1): 1, (1, 7): 0, (2, 2): 2, (2, 3): 3, (3, 2): 3, (3, 3): 0,
    (2, 8): 34, (8, 2): 34, (3, 4): 11, (4, 3): 11, (3, 8): 153, (8, 3): 153, (4, 4): 36, (4, 5): 95, (5, 4): 95,
    (4, 8): 2245, (5, 6): 1183, (5, 7): 0, (5, 8): 14824, (8, 5): 14824, (6, 6): 6728, (6, 8): 167089, (7, 7): 0,
    (7, 8): 1292697, (8, 7): 1292697, (8, 8): 12988816, (32, 2): 3524578, (64, 1): 1, (63, 1): 0, (21, 3): 0,
    (16, 4): 9475901, (20, 3): 413403,
}


class Counts(Refusing, unittest.TestCase):
    def told(self, floor):
        """What both ways tell, which is one number."""
        cases, rows = by_cases(floor), by_rows(floor)
        self.assertEqual((type(cases), type(rows)), (int, int))
        self.assertEqual(cases, rows, floor)
        return cases


class TestCounts(Counts):
    def test_no_cell_and_few_cells(self):
        self.assertEqual(self.told([]), 1)
        self.assertEqual(self.told([(0, 0)]), 0)
        self.assertEqual(self.told([(-5, FAR)]), 0)
        self.assertEqual(self.told([(0, 0), (1, 1)]), 0)
        self.assertEqual(self.told([(0, 1), (1, 0)]), 0)
        self.assertEqual(self.told([(0, 0), (0, 2)]), 0)
        self.assertEqual(self.told([(0, 0), (2, 0)]), 0)

    def test_known_ones(self):
        for rows, columns in KNOWN:
            with self.subTest(rows=rows, columns=columns):
                self.assertEqual(self.told(block(rows, columns)), KNOWN[rows, columns])
                self.assertEqual(self.told(block(rows, columns, -3, -4)), KNOWN[rows, columns])

    def test_diamonds(self):
        self.assertEqual(self.told(drawn(".##. #### #### .##.")), 8)
        self.assertEqual(self.told(drawn("..##.. .####. ###### ###### .####. ..##..")), 64)
        self.assertEqual(self.told(drawn(
            "...##... ..####.. .######. ######## ######## .######. ..####.. ...##..."
        )), 1024)

    def test_with_holes(self):
        self.assertEqual(self.told(RING), 2)
        self.assertEqual(self.told(drawn("#### #..# ####")), 2)
        self.assertEqual(self.told(drawn(".##. #..# #..# .##.")), 1)
        self.assertEqual(self.told([cell for cell in block(5, 5) if cell != (2, 2)]), 196)

    def test_no_laying(self):
        for floor in [block(3, 3), block(7, 7), block(8, 8)[1:-1], block(8, 8)[:-1], drawn("### .#. .#.")]:
            self.assertEqual(self.told(floor), 0)
        for floor in EVEN_BUT_SHORT:
            if max([column for row, column in floor]) < 8:
                self.assertEqual(self.told(floor), 0)
                self.assertEqual(self.told(moved(floor, -FAR, FAR)), 0)

    def test_rows_far_apart(self):
        self.assertEqual(self.told(block(2, 2) + block(2, 3, FAR, 5)), 6)
        self.assertEqual(self.told(block(2, 2, -FAR, 0) + block(2, 2) + block(2, 2, FAR, 0)), 8)
        self.assertEqual(self.told([(0, 0), (FAR, 0)]), 0)
        self.assertEqual(self.told([(0, 0), (2, 0), (3, 0), (5, 0)]), 0)
        self.assertEqual(self.told(block(1, 8) + block(1, 8, 2, 0) + block(1, 8, 9, 0)), 1)
        self.assertEqual(self.told(block(4, 8, -FAR, -FAR) + block(4, 8, FAR, -FAR)), 2245 ** 2)

    def test_parts_side_by_side(self):
        self.assertEqual(self.told(drawn("##.##.## ##.##.##")), 8)
        self.assertEqual(self.told(drawn("##...### ##...###")), 6)

    def test_all_small_floors(self):
        for floor in subsets(block(3, 4, -1, -2)):
            self.assertEqual(self.told(floor), len(all_layings(floor)))

    def test_random_ones(self):
        chance = random.Random(61)
        wide = set()
        for _ in range(200):
            floor = laid_at_random(chance, chance.randrange(3, 11))
            columns = [column for row, column in floor]
            wide.add(max(columns) - min(columns) > 7)
            if max(columns) - min(columns) > 7:
                self.assert_refused("TooWide", by_cases, floor)
                self.assert_refused("TooWide", by_rows, floor)
            else:
                self.assertEqual(self.told(floor), len(all_layings(floor)))
        self.assertEqual(wide, {True, False})

    def test_random_windows(self):
        chance = random.Random(62)
        for _ in range(60):
            floor = sorted(chance.sample(block(9, 8, -4, -4), 64))
            self.assertEqual(self.told(floor) > 0, lay_floor(floor)[0] == "laid")
            self.assertEqual(self.told(sorted([(column, row) for row, column in floor if row < 4])), self.told(
                [cell for cell in floor if cell[0] < 4]
            ))


class TestTooWide(Counts):
    def test_just_eight_columns(self):
        self.assertEqual(self.told([(0, 0), (0, 7)]), 0)
        self.assertEqual(self.told([(0, 7), (FAR, 0)]), 0)
        self.assertEqual(self.told(block(1, 8, 5, -4)), 1)
        self.assertEqual(self.told(block(2, 2, 0, FAR) + block(2, 2, 2, FAR + 6)), 4)
        self.assertEqual(self.told(block(2, 2, 0, -FAR + 6) + block(2, 2, 2, -FAR)), 4)

    def test_nine_and_more(self):
        for floor in [
            block(1, 9), block(2, 9), block(1, 9, -3, -4), block(1, 10), block(1, 64), [(0, 0), (0, 8)],
            [(0, 8), (5, 0)], [(0, 0), (FAR, 8)], [(0, FAR), (1, -FAR)], [(0, -4), (0, 4)],
            block(2, 2) + block(2, 2, 2, 7), JOINED, sorted([(row, 0) for row in range(63)] + [(30, 8)]), block(7, 9),
            [(0, -FAR), (0, -FAR + 8)],
        ]:
            for told in BOTH:
                with self.subTest(told=told.__name__, floor=floor):
                    self.assert_refused("TooWide", told, floor)

    def test_many_rows_are_not_too_wide(self):
        self.assertEqual(self.told([(row, 0) for row in range(64)]), 1)
        self.assertEqual(self.told([(-FAR, 0), (-FAR, 1), (FAR, 0), (FAR, 1)]), 1)


class TestHandedIn(Counts):
    def test_what_is_handed_in_stays(self):
        for floor in [[], block(8, 8), block(3, 3), RING]:
            handed = list(floor)
            first = self.told(handed)
            self.assertEqual(handed, floor)
            self.assertEqual(self.told(handed), first)

    def test_a_list_changed_behind_a_call(self):
        floor = block(2, 2)
        self.assertEqual(self.told(floor), 2)
        floor.pop()
        self.assertEqual(self.told(floor), 0)
        floor.pop()
        self.assertEqual(self.told(floor), 1)


if __name__ == "__main__":
    unittest.main()
