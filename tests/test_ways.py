import random
import unittest

from floortwos.floors import holes_in
from floortwos.heights import heights_of
from floortwos.layings import floor_of, turned, turns_of
from floortwos.peaks import highest, lowest
from floortwos.ways import higher_of, lower_of, middle_of, turns_between, way_between
from helpers import (
    FAR, FULL, HOLED_LAYINGS, NO_LAYINGS, WHEEL, Refusing, all_layings, block, cells_of, covers, drawn, laid_at_random,
    level, level_rows, moved_tiles, subsets, upright,
)

LEVEL = [level(0, 0), level(1, 0)]
UPRIGHT = [upright(0, 0), upright(0, 1)]
OTHER_WHEEL = [upright(0, 0), level(0, 1), upright(1, 2), level(2, 0)]
PAIRS = [turns_between, way_between, higher_of, lower_of]
FLOORS = [
    [], block(1, 2), block(2, 2), block(2, 4, -1, 3), block(3, 4, -1, -2), drawn(".##. #### #### .##."),
    drawn("##.## ##.##"), drawn("##.. ##.. ..## ..##"), drawn("###. ###. .#.# ##.#"), drawn("####. ####. ..#.. .##.."),
]
TALL = [upright(row, column) for row in range(0, 8, 2) for column in range(8)]


def turned_at_random(chance, many):
    """Layings of eight by eight cells, come to by so many turns at random."""
    laying = FULL
    for _ in range(many):
        laying = turned(laying, chance.choice(turns_of(laying)))
    return laying


def steps_between(floor):
    """For each pair of layings of a small floor how many turns are needed, looked for turn by turn."""
    told = {}
    for first in all_layings(floor):
        near = {tuple(first): 0}
        waiting = [first]
        for laying in waiting:
            for corner in turns_of(laying):
                other = turned(laying, corner)
                if tuple(other) not in near:
                    near[tuple(other)] = near[tuple(laying)] + 1
                    waiting.append(other)
        for other in near:
            told[tuple(first), other] = near[other]
    return told


class Ways(Refusing, unittest.TestCase):
    def look_at(self, one, other):
        """Walks the way from the one laying to the other; tells how long it is."""
        way = way_between(one, other)
        self.assertIs(type(way), list)
        laying = one
        for corner in way:
            self.assertIn(corner, turns_of(laying))
            laying = turned(laying, corner)
        self.assertEqual(laying, other)
        apart = [abs(high - low) for high, low in zip(heights_of(one), heights_of(other))]
        self.assertEqual(4 * len(way), sum(apart))
        self.assertEqual(turns_between(one, other), len(way))
        self.assertIs(type(turns_between(one, other)), int)
        return len(way)

    def look_at_both(self, one, other):
        """Looks at the higher and the lower of the two."""
        for told, choose in [(higher_of, max), (lower_of, min)]:
            laying = told(one, other)
            self.assertTrue(covers(cells_of(one), laying))
            self.assertEqual(heights_of(laying), [choose(pair) for pair in zip(heights_of(one), heights_of(other))])
            self.assertEqual(told(other, one), laying)

    def look_at_three(self, one, two, three):
        laying = middle_of(one, two, three)
        self.assertTrue(covers(cells_of(one), laying))
        some = zip(heights_of(one), heights_of(two), heights_of(three))
        self.assertEqual(heights_of(laying), [sorted(heights)[1] for heights in some])


class TestWays(Ways):
    def test_a_laying_and_itself(self):
        for laying in [[], [level(0, 0)], LEVEL, FULL, [level(-FAR, FAR), level(0, 0)]]:
            self.assertEqual(turns_between(laying, list(laying)), 0)
            self.assertEqual(way_between(laying, laying), [])

    def test_one_turn_apart(self):
        self.assertEqual(turns_between(LEVEL, UPRIGHT), 1)
        self.assertEqual(way_between(LEVEL, UPRIGHT), [(1, 1)])
        self.assertEqual(way_between(UPRIGHT, LEVEL), [(1, 1)])
        self.assertEqual(way_between(FULL, turned(FULL, (4, 5))), [(4, 5)])
        for down, right in [(0, 1), (FAR, -FAR), (-FAR, FAR)]:
            one, other = moved_tiles(LEVEL, down, right), moved_tiles(UPRIGHT, down, right)
            self.assertEqual(way_between(one, other), [(1 + down, 1 + right)])

    def test_two_turns_in_one_order(self):
        one = [level(0, 0), upright(0, 2), level(1, 0)]
        other = [upright(0, 0), level(0, 1), level(1, 1)]
        self.assertEqual(way_between(one, other), [(1, 1), (1, 2)])
        self.assertEqual(way_between(other, one), [(1, 2), (1, 1)])

    def test_many_turns(self):
        high, low = highest(block(8, 8))[1], lowest(block(8, 8))[1]
        self.assertEqual(self.look_at(high, low), 84)
        self.assertEqual(self.look_at(low, high), 84)
        self.look_at(FULL, TALL)
        chance = random.Random(51)
        for _ in range(10):
            self.look_at(turned_at_random(chance, 150), turned_at_random(chance, 150))

    def test_up_and_down_on_one_way(self):
        one = LEVEL + moved_tiles(UPRIGHT, 5, 5)
        other = UPRIGHT + moved_tiles(LEVEL, 5, 5)
        self.assertEqual(self.look_at(one, other), 2)
        self.assertEqual(sorted(way_between(one, other)), [(1, 1), (6, 6)])

    def test_several_parts(self):
        floor = sorted(block(4, 4) + block(4, 4, 4, 4) + block(4, 4, 20, -20) + block(4, 4, FAR, -FAR))
        high, low = highest(floor)[1], lowest(floor)[1]
        one_part = turns_between(highest(block(4, 4))[1], lowest(block(4, 4))[1])
        self.assertEqual(self.look_at(high, low), 4 * one_part)
        self.look_at(level_rows(floor), low)

    def test_by_pairs(self):
        for floor in FLOORS:
            steps = steps_between(floor)
            layings = all_layings(floor)
            self.assertEqual(len(steps), len(layings) ** 2)
            for one, other in steps:
                self.assertEqual(self.look_at(list(one), list(other)), steps[one, other])
                self.look_at_both(list(one), list(other))

    def test_by_pairs_of_all_small_floors(self):
        for floor in subsets(block(3, 3)):
            if not holes_in(floor):
                for one in all_layings(floor):
                    for other in all_layings(floor):
                        self.look_at(one, other)
                        self.look_at_both(one, other)

    def test_random_ones(self):
        chance = random.Random(52)
        for _ in range(100):
            floor = laid_at_random(chance, chance.randrange(3, 11))
            if not holes_in(floor):
                layings = all_layings(floor)
                for _ in range(3):
                    one, two, three = [chance.choice(layings) for _ in range(3)]
                    self.look_at(one, two)
                    self.look_at_both(one, two)
                    self.look_at_three(one, two, three)


class TestHigherLowerMiddle(Ways):
    def test_a_laying_and_itself(self):
        for laying in [[], [level(0, 0)], LEVEL, FULL]:
            for told in [higher_of, lower_of]:
                self.assertEqual(told(laying, laying), laying)
            self.assertEqual(middle_of(laying, laying, laying), laying)

    def test_two(self):
        self.assertEqual(higher_of(LEVEL, UPRIGHT), LEVEL)
        self.assertEqual(lower_of(LEVEL, UPRIGHT), UPRIGHT)
        one, other = moved_tiles(LEVEL, 0, 1), moved_tiles(UPRIGHT, 0, 1)
        self.assertEqual(higher_of(one, other), other)
        self.assertEqual(lower_of(one, other), one)

    def test_two_of_which_none_is_the_higher(self):
        one = LEVEL + moved_tiles(UPRIGHT, 5, 5)
        other = UPRIGHT + moved_tiles(LEVEL, 5, 5)
        self.assertEqual(higher_of(one, other), LEVEL + moved_tiles(LEVEL, 5, 5))
        self.assertEqual(lower_of(one, other), UPRIGHT + moved_tiles(UPRIGHT, 5, 5))

    def test_three(self):
        self.assertEqual(middle_of(LEVEL, UPRIGHT, LEVEL), LEVEL)
        self.assertEqual(middle_of(UPRIGHT, UPRIGHT, LEVEL), UPRIGHT)
        # From the first to the second one turn upward, from there to the third one another one upward.
        low = [upright(0, 0), level(0, 1), level(1, 1)]
        middle = turned(low, (1, 2))
        high = turned(middle, (1, 1))
        self.assertEqual(high, [level(0, 0), upright(0, 2), level(1, 0)])
        self.assertEqual((higher_of(middle, high), lower_of(low, middle)), (high, low))
        for three in [(low, middle, high), (high, low, middle), (middle, high, low), (low, high, middle)]:
            self.assertEqual(middle_of(*three), middle)

    def test_by_threes(self):
        for floor in FLOORS:
            layings = all_layings(floor)
            for one in layings:
                for two in layings:
                    for three in layings[:8]:
                        self.look_at_three(one, two, three)

    def test_64_cells(self):
        chance = random.Random(53)
        high, low = highest(block(8, 8))[1], lowest(block(8, 8))[1]
        layings = [turned_at_random(chance, 200) for _ in range(4)] + [FULL, TALL, high, low]
        for one in layings:
            self.assertEqual(higher_of(one, high), high)
            self.assertEqual(lower_of(one, low), low)
            self.assertEqual(middle_of(low, one, high), one)
            for two in layings:
                self.look_at_both(one, two)
                self.look_at_three(one, two, layings[0])

    def test_far_away(self):
        for down, right in [(FAR, -FAR), (-FAR, FAR)]:
            one, other = moved_tiles(FULL, down, right), moved_tiles(TALL, down, right)
            self.look_at(one, other)
            self.look_at_both(one, other)
            self.look_at_three(one, other, one)


class TestRefused(Ways):
    def test_each_argument_that_is_no_laying(self):
        for tiles in NO_LAYINGS:
            for good in [[], LEVEL, FULL, WHEEL]:
                for told in PAIRS:
                    self.assert_refused("NoLaying", told, tiles, good)
                    self.assert_refused("NoLaying", told, good, tiles)
                    self.assert_refused("NoLaying", told, tiles, tiles)
                for three in [(tiles, good, good), (good, tiles, good), (good, good, tiles), (tiles, good, tiles)]:
                    self.assert_refused("NoLaying", middle_of, *three)

    def test_no_laying_beside_unlike_floors_and_holes(self):
        for tiles in NO_LAYINGS[:8]:
            for three in [(WHEEL, LEVEL, tiles), (tiles, WHEEL, LEVEL), (WHEEL, tiles, LEVEL), (LEVEL, WHEEL, tiles)]:
                self.assert_refused("NoLaying", middle_of, *three)

    def test_unlike_floors(self):
        for one, other in [
            ([], LEVEL), (LEVEL, []), (LEVEL, FULL), (LEVEL, moved_tiles(LEVEL, 0, 1)),
            ([level(0, 0)], [upright(0, 0)]), (LEVEL, moved_tiles(LEVEL, FAR, 0)), (LEVEL, LEVEL + [level(5, 5)]),
            (FULL, FULL[:-1]),
        ]:
            for told in PAIRS:
                self.assert_refused("NotAlike", told, one, other)
                self.assert_refused("NotAlike", told, other, one)
            for three in [(one, one, other), (one, other, one), (other, one, one), (one, other, other)]:
                self.assert_refused("NotAlike", middle_of, *three)

    def test_unlike_floors_with_holes(self):
        for one, other in [
            (WHEEL, LEVEL), (WHEEL, []), (WHEEL, moved_tiles(WHEEL, 0, 1)), (WHEEL, sorted(WHEEL + [level(7, 7)])),
            (HOLED_LAYINGS[1], HOLED_LAYINGS[2]), (FULL, HOLED_LAYINGS[3]),
        ]:
            for told in PAIRS:
                self.assert_refused("NotAlike", told, one, other)
                self.assert_refused("NotAlike", told, other, one)
            for three in [(one, one, other), (one, other, one), (other, one, one)]:
                self.assert_refused("NotAlike", middle_of, *three)

    def test_holes(self):
        for one, other in [(WHEEL, OTHER_WHEEL)] + [(laying, list(laying)) for laying in HOLED_LAYINGS]:
            self.assertEqual(floor_of(one), floor_of(other))
            for told in PAIRS:
                self.assert_refused("Holed", told, one, other)
                self.assert_refused("Holed", told, other, one)
            self.assert_refused("Holed", middle_of, one, other, one)


class TestOwnLists(Ways):
    def test_what_is_handed_in_stays(self):
        one, other = list(FULL), list(TALL)
        for told in PAIRS:
            told(one, other)
        middle_of(one, other, one)
        self.assertEqual((one, other), (FULL, TALL))

    def test_a_changed_answer_changes_no_later_one(self):
        for told, handed in [
            (way_between, [LEVEL, UPRIGHT]), (way_between, [LEVEL, LEVEL]), (higher_of, [LEVEL, UPRIGHT]),
            (lower_of, [LEVEL, UPRIGHT]), (higher_of, [FULL, FULL]), (lower_of, [FULL, FULL]), (lower_of, [[], []]),
            (middle_of, [LEVEL, UPRIGHT, LEVEL]), (middle_of, [FULL, FULL, FULL]), (way_between, [FULL, TALL]),
        ]:
            with self.subTest(told=told.__name__):
                layings = [list(tiles) for tiles in handed]
                first = told(*layings)
                kept = list(first)
                first.reverse()
                first.append((9, 9))
                self.assertEqual(layings, handed)
                self.assertEqual(told(*layings), kept)
                self.assertEqual(told(*[list(tiles) for tiles in handed]), kept)

    def test_one_list_handed_in_twice(self):
        laying = list(FULL)
        for told in [higher_of(laying, laying), lower_of(laying, laying), middle_of(laying, laying, laying)]:
            self.assertIsNot(told, laying)
            told.clear()
            self.assertEqual(laying, FULL)

    def test_a_list_changed_behind_a_call_changes_no_answer(self):
        one, other = list(LEVEL), list(UPRIGHT)
        told = [higher_of(one, other), lower_of(one, other), middle_of(one, other, other), way_between(one, other)]
        one.clear()
        other.clear()
        self.assertEqual(told, [LEVEL, UPRIGHT, UPRIGHT, [(1, 1)]])
        self.assertEqual(way_between(one, other), [])


if __name__ == "__main__":
    unittest.main()
