import random
import unittest

from floortwos.counts import by_cases
from floortwos.layings import places_of
from floortwos.numbers import laying_at, place_of, shares_of
from helpers import (
    EVEN_BUT_SHORT, FAR, FULL, HOLED_LAYINGS, JOINED, NO_LAYINGS, RING, WHEEL, Refusing, all_layings, block, covers,
    drawn, is_wide, laid_at_random, level, level_rows, moved_tiles, subsets, upright,
)

TALL = [upright(row, column) for row in range(0, 8, 2) for column in range(8)]
MANY = 12988816


def counted_shares(floor):
    """The shares, by looking at all layings."""
    layings = all_layings(floor)
    return [(place, len([laying for laying in layings if place in laying])) for place in places_of(floor)]


class TestNumbers(Refusing, unittest.TestCase):
    def look_at(self, floor):
        """Looks at all numbers of a small floor."""
        layings = all_layings(floor)
        self.assertEqual(layings, sorted(layings))
        self.assertEqual([laying_at(floor, number) for number in range(len(layings))], layings)
        self.assertEqual([place_of(laying) for laying in layings], list(range(len(layings))))
        self.assert_refused("NoNumber", laying_at, floor, len(layings))
        self.assert_refused("NoNumber", laying_at, floor, -1)

    def test_no_cell_and_one_tile(self):
        self.assertEqual(laying_at([], 0), [])
        self.assertEqual(place_of([]), 0)
        self.assertEqual(laying_at(block(1, 2), 0), [level(0, 0)])
        self.assertEqual(place_of([upright(-FAR, FAR)]), 0)

    def test_four_cells(self):
        self.assertEqual(laying_at(block(2, 2), 0), [level(0, 0), level(1, 0)])
        self.assertEqual(laying_at(block(2, 2), 1), [upright(0, 0), upright(0, 1)])
        self.assertEqual(place_of([level(0, 0), level(1, 0)]), 0)
        self.assertEqual(place_of([upright(0, 0), upright(0, 1)]), 1)

    def test_all_numbers_of_some_floors(self):
        for floor in [
            block(3, 4), block(4, 4, -2, -2), block(4, 5, FAR, -FAR), block(2, 8, -1, -8), RING,
            drawn("##.## ##.##"), drawn(".##. #### #### .##."), block(2, 2) + block(2, 3, FAR, 5),
            drawn("#### #..# ####"),
        ]:
            self.look_at(floor)

    def test_all_numbers_of_small_floors(self):
        for floor in subsets(block(3, 4, -1, -2)):
            self.look_at(floor)

    def test_all_numbers_of_random_ones(self):
        chance = random.Random(71)
        for _ in range(100):
            floor = laid_at_random(chance, chance.randrange(3, 11))
            if not is_wide(floor):
                self.look_at(floor)

    def test_eight_by_eight(self):
        floor = block(8, 8)
        self.assertEqual(laying_at(floor, 0), FULL)
        self.assertEqual(laying_at(floor, MANY - 1), TALL)
        self.assertEqual((place_of(FULL), place_of(TALL)), (0, MANY - 1))
        chance = random.Random(72)
        numbers = sorted([chance.randrange(MANY) for _ in range(40)] + [1, MANY // 2 - 1, MANY // 2, MANY - 2])
        layings = [laying_at(floor, number) for number in numbers]
        self.assertEqual(layings, sorted(layings))
        self.assertEqual([place_of(laying) for laying in layings], numbers)
        self.assertTrue(all(covers(floor, laying) for laying in layings))
        # The least cell lies with its right neighbour in one half, with the one below in the other.
        self.assertEqual(laying_at(floor, MANY // 2 - 1)[0], level(0, 0))
        self.assertEqual(laying_at(floor, MANY // 2)[0], upright(0, 0))

    def test_far_away_and_long(self):
        for down, right in [(FAR, -FAR), (-FAR, FAR)]:
            self.assertEqual(laying_at(block(8, 8, down, right), MANY - 1), moved_tiles(TALL, down, right))
            self.assertEqual(place_of(moved_tiles(TALL, down, right)), MANY - 1)
        self.assertEqual(laying_at(block(64, 1), 0), [upright(row, 0) for row in range(0, 64, 2)])
        self.assertEqual(place_of(level_rows(block(32, 2))), 0)
        self.assertEqual(place_of([upright(row, column) for row in range(0, 32, 2) for column in (0, 1)]), 3524577)

    def test_what_is_no_number(self):
        things = [
            -1, 2, 3, -2, 10 ** 100, -10 ** 100, True, False, None, "0", "", "1", b"0", [], [0], (), (0,), {}, {0: 0},
            set(), object(), int, len, level(0, 0),
        ]
        for thing in things:
            with self.subTest(thing=thing):
                self.assert_refused("NoNumber", laying_at, block(2, 2), thing)
                self.assert_refused("NoNumber", laying_at, block(3, 3), thing)
                self.assert_refused("NoNumber", laying_at, [], thing)
        self.assert_refused("NoNumber", laying_at, [], 1)
        self.assert_refused("NoNumber", laying_at, block(8, 8), MANY)
        self.assert_refused("NoNumber", laying_at, block(8, 8), -1)

    def test_a_floor_without_a_laying(self):
        for floor in [[(0, 0)], block(3, 3), block(8, 8)[1:-1], EVEN_BUT_SHORT[0], EVEN_BUT_SHORT[2]]:
            for number in [0, 1, -1, None, True]:
                self.assert_refused("NoNumber", laying_at, floor, number)

    def test_too_wide_ahead_of_no_number(self):
        for floor in [block(1, 9), block(1, 10), [(0, 0), (FAR, 8)], [(0, -4), (1, 4)], JOINED, block(1, 64)]:
            for number in [0, 1, -1, None, True, "0", 10 ** 100]:
                self.assert_refused("TooWide", laying_at, floor, number)
        self.assertEqual(laying_at(block(1, 8), 0), level_rows(block(1, 8)))

    def test_place_of_too_wide_a_laying(self):
        for laying in [
            level_rows(block(1, 10)), level_rows(block(1, 64)), [level(0, 0), level(FAR, 7)],
            [level(0, 7), level(5, 0)], HOLED_LAYINGS[1], [upright(0, 0), upright(0, 8)],
            [level(0, FAR), level(1, -FAR)],
        ]:
            self.assert_refused("TooWide", place_of, laying)
        self.assertEqual(place_of([level(0, 0), level(FAR, 6)]), 0)

    def test_place_of_no_laying(self):
        for tiles in NO_LAYINGS:
            with self.subTest(tiles=tiles):
                self.assert_refused("NoLaying", place_of, tiles)
        self.assert_refused("NoLaying", place_of, [level(0, 20), level(0, 0)])
        self.assert_refused("NoLaying", place_of, level_rows(block(1, 10))[::-1])

    def test_with_holes(self):
        self.assertEqual(place_of(WHEEL), 0)
        self.assertEqual(laying_at(RING, 1), [upright(0, 0), level(0, 1), upright(1, 2), level(2, 0)])


class TestShares(Refusing, unittest.TestCase):
    def look_at(self, floor):
        shares = shares_of(floor)
        self.assertIs(type(shares), list)
        self.assertEqual({type(share) for share in shares} - {tuple}, set())
        self.assertEqual([place for place, many in shares], places_of(floor))
        count = by_cases(floor)
        for cell in floor:
            self.assertEqual(sum([many for place, many in shares if cell in place]), count)
        return shares

    def test_no_cell_and_few_cells(self):
        self.assertEqual(shares_of([]), [])
        self.assertEqual(shares_of([(0, 0)]), [])
        self.assertEqual(shares_of(block(1, 2)), [(level(0, 0), 1)])
        self.assertEqual(shares_of(block(1, 3)), [(level(0, 0), 0), (level(0, 1), 0)])
        self.assertEqual(shares_of(block(1, 4)), [(level(0, 0), 1), (level(0, 1), 0), (level(0, 2), 1)])

    def test_four_cells(self):
        self.assertEqual(shares_of(block(2, 2)), [
            (level(0, 0), 1), (upright(0, 0), 1), (upright(0, 1), 1), (level(1, 0), 1),
        ])

    def test_a_floor_without_a_laying(self):
        for floor in [block(3, 3), block(8, 8)[1:-1], block(7, 7), drawn("#..# #### #..#")]:
            self.assertEqual(shares_of(floor), [(place, 0) for place in places_of(floor)])

    def test_all_small_floors(self):
        for floor in subsets(block(3, 4, -1, -2)):
            self.assertEqual(shares_of(floor), counted_shares(floor))

    def test_some_floors(self):
        for floor in [
            block(4, 4, -2, -2), block(4, 5, FAR, -FAR), RING, drawn("##.## ##.##"), block(2, 2) + block(2, 3, FAR, 5),
            drawn(".##. #### #### .##.", -2, -2),
        ]:
            self.assertEqual(self.look_at(floor), counted_shares(floor))

    def test_random_ones(self):
        chance = random.Random(73)
        for _ in range(100):
            floor = laid_at_random(chance, chance.randrange(3, 11))
            if is_wide(floor):
                self.assert_refused("TooWide", shares_of, floor)
            else:
                self.assertEqual(shares_of(floor), counted_shares(floor))

    def test_64_cells(self):
        shares = dict(self.look_at(block(8, 8)))
        self.assertEqual(shares[level(0, 0)], MANY // 2)
        for place in shares:
            rest = [cell for cell in block(8, 8) if cell not in place]
            if place[0][0] == 3:
                self.assertEqual(shares[place], by_cases(rest))
        for floor in [block(64, 1), block(32, 2), block(16, 4, -FAR, -FAR), sorted(block(4, 8) + block(4, 8, FAR, 0))]:
            self.look_at(floor)

    def test_too_wide(self):
        for floor in [block(1, 9), block(1, 10), [(0, 0), (FAR, 8)], [(0, -4), (1, 4)], JOINED, block(1, 64)]:
            self.assert_refused("TooWide", shares_of, floor)
        self.assertEqual(shares_of([(0, 0), (FAR, 7)]), [])


class TestOwnLists(unittest.TestCase):
    def test_what_is_handed_in_stays(self):
        floor, laying = block(8, 8), list(TALL)
        laying_at(floor, 77)
        shares_of(floor)
        place_of(laying)
        self.assertEqual((floor, laying), (block(8, 8), TALL))

    def test_a_changed_answer_changes_no_later_one(self):
        for told, floor, numbers in [
            (laying_at, [], [0]), (laying_at, block(4, 4), [17]), (shares_of, block(4, 4), []), (shares_of, [], []),
        ]:
            handed = list(floor)
            first = told(handed, *numbers)
            kept = list(first)
            self.assertIsNot(first, handed)
            first.reverse()
            first.append(7)
            self.assertEqual(handed, floor)
            self.assertEqual(told(handed, *numbers), kept)
            self.assertEqual(told(list(floor), *numbers), kept)

    def test_a_list_changed_behind_a_call_changes_no_answer(self):
        floor, laying = block(2, 2), [upright(0, 0), upright(0, 1)]
        told, shares = laying_at(floor, 1), shares_of(floor)
        floor.pop()
        floor.pop()
        self.assertEqual(told, laying)
        self.assertEqual([many for place, many in shares], [1, 1, 1, 1])
        self.assertEqual(laying_at(floor, 0), [level(0, 0)])
        self.assertEqual(place_of(laying), 1)
        laying.pop()
        self.assertEqual(place_of(laying), 0)


if __name__ == "__main__":
    unittest.main()
