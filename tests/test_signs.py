import functools
import itertools
import math
import random
import unittest

from floortwos.counts import by_cases
from floortwos.floors import holes_in
from floortwos.signs import by_signs, sign_of, size_of, table_of
from helpers import (
    EVEN_BUT_SHORT, FAR, FULL, HOLED_LAYINGS, JOINED, NO_LAYINGS, RING, WHEEL, Refusing, all_layings, block, cells_of,
    drawn, laid_at_random, level, level_rows, moved, moved_tiles, steps_apart, subsets, upright,
)

PRIMES = [2 ** 521 - 1, 2 ** 127 - 1, 1009]
TALL = [upright(row, column) for row in range(0, 8, 2) for column in range(8)]


def told_table(floor):
    """The table by the words of point 24."""
    rows = []
    for dark in [cell for cell in floor if sum(cell) % 2 == 0]:
        row = []
        for light in [cell for cell in floor if sum(cell) % 2 == 1]:
            if steps_apart(dark, light) != 1:
                row.append(0)
            elif dark[0] == light[0] or dark[1] % 2 == 0:
                row.append(1)
            else:
                row.append(-1)
        rows.append(row)
    return rows


@functools.cache
def choices(many):
    """All choices of one column for each of so many rows, no two alike, each with its sign."""
    told = []
    for columns in itertools.permutations(range(many)):
        pairs = [pair for pair in itertools.combinations(columns, 2) if pair[0] > pair[1]]
        told.append((columns, 1 if len(pairs) % 2 == 0 else -1))
    return told


def by_choices(rows):
    """The size, by going through all choices."""
    total = 0
    for columns, sign in choices(len(rows)):
        total += sign * math.prod([row[column] for row, column in zip(rows, columns)])
    return total


def by_remainders(rows, prime):
    """What is left of the size by the prime, found with what is left of all numbers."""
    left = [[number % prime for number in row] for row in rows]
    size = 1
    while left:
        at = next((at for at, row in enumerate(left) if row[0]), None)
        if at is None:
            return 0
        first = left.pop(at)
        size = size * first[0] * (-1) ** at % prime
        inverse = pow(first[0], -1, prime)
        factors = [row[0] * inverse % prime for row in left]
        left = [
            [(number - factor * above) % prime for number, above in zip(row, first)][1:]
            for row, factor in zip(left, factors)
        ]
    return size


def told_sign(laying):
    """The sign by the words of point 25."""
    sign = 1
    pairs = [tile if sum(tile[0]) % 2 == 0 else tile[::-1] for tile in laying]
    for dark, light in pairs:
        if dark[0] != light[0] and dark[1] % 2 == 1:
            sign = -sign
    for one, other in itertools.combinations(pairs, 2):
        if (one[0] < other[0]) != (one[1] < other[1]):
            sign = -sign
    return sign


class TestTable(unittest.TestCase):
    def test_few_cells(self):
        self.assertEqual(table_of([]), [])
        self.assertEqual(table_of([(0, 0)]), [[]])
        self.assertEqual(table_of([(0, 1)]), [])
        self.assertEqual(table_of(block(1, 2)), [[1]])
        self.assertEqual(table_of(block(2, 2)), [[1, 1], [-1, 1]])
        self.assertEqual(table_of([(0, 0), (1, 2)]), [[0]])

    def test_columns_of_even_and_of_odd_number(self):
        for column, number in [(0, 1), (1, -1), (2, 1), (-1, -1), (-2, 1), (FAR, 1), (FAR + 1, -1), (-FAR, 1)]:
            for row in [0, 1, -1, -FAR, FAR + 1]:
                self.assertEqual(table_of(block(2, 1, row, column)), [[number]])
                self.assertEqual(table_of(block(1, 2, row, column)), [[1]])

    def test_unlike_numbers_of_dark_and_light_cells(self):
        self.assertEqual(table_of(block(1, 3)), [[1], [1]])
        self.assertEqual(table_of(block(1, 3, 0, 1)), [[1, 1]])
        self.assertEqual(table_of(block(3, 1, 0, 1)), [[-1, -1]])
        self.assertEqual(table_of([(0, 0), (1, 1), (2, 2)]), [[], [], []])
        self.assertEqual(table_of([(0, 1), (1, 2), (2, 3)]), [])
        self.assertEqual(table_of(block(3, 3)), [
            [1, 1, 0, 0], [1, 0, 1, 0], [-1, 1, 1, -1], [0, 1, 0, 1], [0, 0, 1, 1],
        ])

    def test_any_floor(self):
        floors = [block(8, 8), block(1, 64), block(64, 1), RING, JOINED, block(7, 9, -3, -4), block(5, 5, FAR, -FAR)]
        floors += EVEN_BUT_SHORT + [cells_of(laying) for laying in HOLED_LAYINGS]
        floors += list(subsets(block(3, 3, -2, -1)))
        for floor in floors:
            self.assertEqual(table_of(floor), told_table(floor))


class TestSize(Refusing, unittest.TestCase):
    def test_small_ones(self):
        self.assertEqual(size_of([]), 1)
        for number in [0, 1, -1, 7, 10 ** 60 - 1, 1 - 10 ** 60]:
            self.assertEqual(size_of([[number]]), number)
        self.assertEqual(size_of([[1, 2], [3, 4]]), -2)
        self.assertEqual(size_of([[0, 1], [1, 0]]), -1)
        self.assertEqual(size_of([[0, 1, 0], [0, 0, 1], [1, 0, 0]]), 1)
        self.assertEqual(size_of([[2, 0, 0], [0, 3, 0], [0, 0, -5]]), -30)

    def test_by_going_through_all_choices(self):
        chance = random.Random(81)
        for many in range(1, 8):
            for most in [1, 1, 2, 9, 10 ** 60]:
                for _ in range(4):
                    rows = [[chance.randrange(-most, most + 1) for _ in range(many)] for _ in range(many)]
                    self.assertEqual(size_of(rows), by_choices(rows), rows)

    def test_all_of_three_rows_of_noughts_and_ones(self):
        for numbers in itertools.product([0, 1], repeat=9):
            rows = [list(numbers[at:at + 3]) for at in (0, 3, 6)]
            self.assertEqual(size_of(rows), by_choices(rows), rows)

    def test_a_nought_at_each_place_of_the_first_column(self):
        chance = random.Random(82)
        for many in range(1, 7):
            for noughts in itertools.product([True, False], repeat=many):
                rows = [[chance.randrange(-9, 10) for _ in range(many)] for _ in range(many)]
                for row, nought in zip(rows, noughts):
                    row[0] = 0 if nought else row[0]
                self.assertEqual(size_of(rows), by_choices(rows), rows)

    def test_rows_in_all_orders(self):
        rows = [[2, 0, 0, 0], [0, 3, 0, 0], [0, 0, 5, 0], [0, 0, 0, 7]]
        for order in itertools.permutations(rows):
            self.assertEqual(size_of(list(order)), by_choices(order))

    def test_rows_that_are_alike(self):
        for many in range(2, 8):
            rows = [[(3 * row + 5 * column) % 7 for column in range(many)] for row in range(many)]
            rows[-1] = list(rows[0])
            self.assertEqual(size_of(rows), 0)
        self.assertEqual(size_of([[1, 2], [-2, -4]]), 0)
        self.assertEqual(size_of([[0] * 32 for _ in range(32)]), 0)

    def test_one_list_as_several_rows(self):
        row = [1, 2, 3]
        self.assertEqual(size_of([row, row, row]), 0)
        self.assertEqual(size_of([row, [0, 1, 0], row]), 0)
        self.assertEqual(row, [1, 2, 3])
        rows = [[5]]
        self.assertEqual((size_of(rows), size_of(rows)), (5, 5))
        nought = [0] * 32
        self.assertEqual(size_of([nought] * 32), 0)

    def test_32_rows_of_numbers_of_sixty_figures(self):
        chance = random.Random(83)
        most = 10 ** 60 - 1
        for _ in range(2):
            rows = [[chance.randrange(-most, most + 1) for _ in range(32)] for _ in range(32)]
            for noughts in range(4):
                rows[noughts][0] = 0
                size = size_of(rows)
                self.assertEqual([size % prime for prime in PRIMES], [by_remainders(rows, prime) for prime in PRIMES])
            rows[31] = [one - other for one, other in zip(rows[3], rows[17])]
            self.assertEqual(size_of(rows), 0)
        rows = [[most if row == column else 0 for column in range(32)] for row in range(32)]
        self.assertEqual(size_of(rows), most ** 32)
        self.assertEqual(size_of(rows[1:] + rows[:1]), -most ** 32)
        rows[31][31] = -most
        self.assertEqual(size_of(rows[::-1]), -most ** 32)

    def test_more_than_32_rows(self):
        for many in [33, 34, 64]:
            self.assert_refused("NoTable", size_of, [[1] * many for _ in range(many)])
            self.assert_refused("NoTable", size_of, [[1] * 32 for _ in range(many)])
            self.assert_refused("NoTable", size_of, [[] for _ in range(many)])
        self.assertEqual(size_of([[1] * 32 for _ in range(32)]), 0)

    def test_a_row_of_more_or_fewer_numbers(self):
        for rows in [
            [[]], [[1, 2]], [[1], [2]], [[1, 2], [3]], [[1], [2, 3]], [[1, 2], [3, 4, 5]], [[1, 2, 3], [4, 5]],
            [[], []], [[1, 2, 3], [4, 5, 6]], [[1, 2], [3, 4], [5, 6]], [[0, 0], [0]], [[0, 0, 0], [0, 0, 0], [0, 0]],
            [[1, 0, 0], [0, 1, 0], [0, 0, 1, 0]], [[1] * 32] * 31, [[1] * 32] * 31 + [[1] * 33],
            [[1] * 32] * 31 + [[1] * 31],
        ]:
            with self.subTest(rows=rows):
                self.assert_refused("NoTable", size_of, rows)

    def test_things_that_are_no_numbers(self):
        for rows in [[[True]], [[None]], [["1"]], [[1, 0], [0, False]]]:
            self.assert_refused("NoTable", size_of, rows)


class TestBySigns(Refusing, unittest.TestCase):
    def test_no_cell_and_few_cells(self):
        self.assertEqual(by_signs([]), 1)
        for floor in [[(0, 0)], [(0, 1)], [(0, 1), (1, 2)], [(0, 0), (1, 1)], [(0, 0), (1, 2)], block(1, 3)]:
            self.assertEqual(by_signs(floor), 0)
        self.assertEqual(by_signs(block(1, 2)), 1)
        self.assertEqual(by_signs(block(2, 1, 0, 1)), 1)
        self.assertEqual(by_signs(block(2, 2)), 2)

    def test_as_by_cases(self):
        for floor in [
            block(8, 8), block(8, 8, -FAR, FAR), block(8, 8, 0, 1), block(7, 8), block(5, 5), block(64, 1),
            block(16, 4), drawn("...##... ..####.. .######. ######## ######## .######. ..####.. ...##..."),
            block(8, 8)[1:-1], block(4, 8) + block(4, 8, FAR, 0), drawn("##.## ##.##"), drawn("##.. ##.. ..## ..##"),
        ]:
            told = by_signs(floor)
            self.assertIs(type(told), int)
            self.assertEqual(told, by_cases(floor))

    def test_no_floor_is_too_wide(self):
        self.assertEqual(by_signs(block(1, 64)), 1)
        self.assertEqual(by_signs(block(2, 32)), 3524578)
        self.assertEqual(by_signs(block(4, 16, -5, -9)), 9475901)
        self.assertEqual(by_signs(block(1, 9)), 0)
        self.assertEqual(by_signs(JOINED), 0)
        self.assertEqual(by_signs([(0, -FAR), (0, 1 - FAR), (0, FAR), (0, FAR + 1)]), 1)

    def test_as_many_dark_as_light_cells_and_no_laying(self):
        for floor in EVEN_BUT_SHORT:
            if not holes_in(floor):
                self.assertEqual(by_signs(floor), 0)

    def test_all_small_floors(self):
        for floor in subsets(block(3, 4, -1, -2)):
            if holes_in(floor):
                self.assert_refused("Holed", by_signs, floor)
            else:
                self.assertEqual(by_signs(floor), len(all_layings(floor)))
                self.assertEqual(by_signs(moved(floor, 0, 1)), len(all_layings(floor)))

    def test_random_ones(self):
        chance = random.Random(84)
        for _ in range(150):
            floor = laid_at_random(chance, chance.randrange(3, 11))
            if not holes_in(floor):
                self.assertEqual(by_signs(floor), len(all_layings(floor)))

    def test_holes_ahead_of_all_else(self):
        floors = [cells_of(laying) for laying in HOLED_LAYINGS] + [
            RING, moved(RING, FAR, -FAR), sorted(RING + [(9, 9)]), [(0, 1), (1, 0), (1, 2), (2, 1)],
            [cell for cell in block(5, 5) if cell != (2, 1)], [cell for cell in block(3, 20) if cell != (1, 1)],
            [cell for cell in block(5, 12) if cell != (2, 6)],
        ]
        for floor in floors:
            self.assert_refused("Holed", by_signs, floor)


class TestSign(Refusing, unittest.TestCase):
    def test_few_tiles(self):
        self.assertEqual(sign_of([]), 1)
        self.assertEqual(sign_of([level(0, 0)]), 1)
        self.assertEqual(sign_of([level(0, 1)]), 1)
        self.assertEqual(sign_of([upright(0, 0)]), 1)
        self.assertEqual(sign_of([upright(0, 1)]), -1)
        self.assertEqual(sign_of([upright(-5, -3)]), -1)
        self.assertEqual(sign_of([upright(FAR, -FAR)]), 1)
        # The dark cells are in one order, the light ones in the other.
        self.assertEqual(sign_of([upright(0, 0), upright(0, 1)]), 1)
        self.assertEqual(sign_of([upright(0, 0), upright(0, 3)]), 1)
        self.assertEqual(sign_of([upright(0, 0), upright(0, 2)]), 1)

    def test_all_layings_of_small_floors(self):
        for floor in subsets(block(3, 4, -1, -2)):
            signs = [sign_of(laying) for laying in all_layings(floor)]
            self.assertEqual(signs, [told_sign(laying) for laying in all_layings(floor)])
            if signs and not holes_in(floor):
                self.assertEqual(set(signs), {signs[0]})
            if signs:
                self.assertEqual(sum(signs), size_of(table_of(floor)))

    def test_random_ones(self):
        chance = random.Random(85)
        unlike = 0
        for _ in range(150):
            floor = laid_at_random(chance, chance.randrange(3, 11))
            signs = [sign_of(laying) for laying in all_layings(floor)]
            self.assertEqual(signs, [told_sign(laying) for laying in all_layings(floor)])
            self.assertEqual(sum(signs), size_of(table_of(floor)))
            if not holes_in(floor):
                self.assertEqual(len(set(signs)), 1)
            unlike += len(set(signs)) > 1
        self.assertGreater(unlike, 0)

    def test_floors_with_holes(self):
        other = [upright(0, 0), level(0, 1), upright(1, 2), level(2, 0)]
        self.assertEqual(sorted([sign_of(WHEEL), sign_of(other)]), [-1, 1])
        self.assertEqual(size_of(table_of(RING)), 0)
        for laying in HOLED_LAYINGS:
            self.assertEqual(sign_of(laying), told_sign(laying))

    def test_64_cells(self):
        self.assertEqual(sign_of(FULL), sign_of(TALL))
        for laying in [FULL, TALL, level_rows(block(1, 64)), moved_tiles(FULL, FAR, -FAR), moved_tiles(TALL, 0, 1)]:
            self.assertEqual(sign_of(laying), told_sign(laying))
            self.assertIs(type(sign_of(laying)), int)

    def test_what_is_no_laying(self):
        for tiles in NO_LAYINGS + [WHEEL[::-1]]:
            with self.subTest(tiles=tiles):
                self.assert_refused("NoLaying", sign_of, tiles)


class TestOwnLists(unittest.TestCase):
    def test_what_is_handed_in_stays(self):
        floor, laying = block(8, 8), list(TALL)
        table_of(floor)
        by_signs(floor)
        sign_of(laying)
        self.assertEqual((floor, laying), (block(8, 8), TALL))
        rows = [[0, 1, 2], [3, 0, 5], [6, 7, 0]]
        kept = [list(row) for row in rows]
        first = size_of(rows)
        self.assertEqual(rows, kept)
        self.assertEqual(size_of(rows), first)

    def test_a_changed_answer_changes_no_later_one(self):
        for floor in [[], block(2, 2), block(4, 4), block(3, 3), [(0, 0), (1, 1)]]:
            handed = list(floor)
            first = table_of(handed)
            kept = [list(row) for row in first]
            for row in first:
                row.reverse()
                row.append(7)
            first.append([1])
            self.assertEqual(handed, floor)
            self.assertEqual(table_of(handed), kept)
            self.assertEqual(table_of(list(floor)), kept)

    def test_no_two_rows_are_one_list(self):
        told = table_of([(0, 0), (1, 1), (5, 5), (9, 10), (20, 21)])
        told[0].append(5)
        self.assertEqual(told, [[0, 0, 5], [0, 0], [0, 0]])

    def test_a_list_changed_behind_a_call_changes_no_answer(self):
        floor = block(2, 2)
        told = table_of(floor)
        floor.pop()
        self.assertEqual(told, [[1, 1], [-1, 1]])
        self.assertEqual(by_signs(floor), 0)


if __name__ == "__main__":
    unittest.main()
