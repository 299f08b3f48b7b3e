"""Point 3, the whole promise: over floors of several kinds, function against function."""

import random
import unittest

from floortwos.counts import by_cases, by_rows
from floortwos.cuts import by_cut
from floortwos.errors import Holed, NoLaying, NoNumber, TooWide
from floortwos.fates import fate_of
from floortwos.floors import corners_of, gathered, holes_in, sides_of
from floortwos.heights import heights_of, is_upward, laying_of
from floortwos.lay import lay_floor
from floortwos.layings import is_laying, places_of, turned, turns_of
from floortwos.numbers import laying_at, place_of, shares_of
from floortwos.peaks import highest, lowest
from floortwos.signs import by_signs, sign_of, size_of, table_of
from floortwos.texts import read_floor, read_laying, shown_floor, shown_laying
from floortwos.ways import higher_of, lower_of, middle_of, turns_between, way_between
from helpers import (
    EVEN_BUT_SHORT, FAR, HOLED_LAYINGS, JOINED, RING, block, cells_of, covers, drawn, greatest_rise, in_steps, is_short,
    is_wide, laid_at_random,
)


def floors():
    """Floors with and without a laying, with and without holes, narrow and wide, of few and of 64 cells."""
    chance = random.Random(101)
    told = [
        [], [(0, 0)], [(-FAR, FAR)], block(1, 2), block(2, 2, -1, -1), block(3, 3), block(3, 4, 5, 5), block(8, 8),
        block(8, 8, -FAR, FAR), block(1, 64), block(64, 1), block(4, 16), block(8, 8)[1:-1], block(8, 8)[1:], RING,
        JOINED, drawn("##.## ##.##"), drawn("##.. ##.. ..## ..##"), block(4, 8) + block(4, 8, FAR, 0),
        drawn("...##... ..####.. .######. ######## ######## .######. ..####.. ...##..."),
    ]
    told += EVEN_BUT_SHORT + [cells_of(laying) for laying in HOLED_LAYINGS]
    told += [laid_at_random(chance, many) for many in (4, 5, 6, 7, 8, 9, 10, 12, 16, 24, 32)]
    told += [gathered(chance.sample(block(6, 6, -3, -3), many)) for many in (20, 24, 26, 28, 30, 32, 34)]
    told += [gathered(chance.sample(block(9, 8), 64)) for _ in range(4)]
    return told


def some_layings(floor):
    """Some layings of a floor that has one: the one that is found, and others that turns make of it."""
    chance = random.Random(len(floor))
    laying = lay_floor(floor)[1]
    told = [laying]
    for many in (1, 5, 40):
        for _ in range(many):
            turns = turns_of(laying)
            laying = turned(laying, chance.choice(turns)) if turns else laying
        told.append(laying)
    return told


FLOORS = floors()
LAID = [floor for floor in FLOORS if lay_floor(floor)[0] == "laid"]


class TestWhole(unittest.TestCase):
    def test_a_laying_or_cells_that_are_short(self):
        words = set()
        for floor in FLOORS:
            word, told = lay_floor(floor)
            words.add(word)
            self.assertTrue(covers(floor, told) if word == "laid" else is_short(floor, told))
            self.assertEqual(is_laying(floor, told), word == "laid")
        self.assertEqual(words, {"laid", "short"})

    def test_the_highest_laying_or_a_closed_way(self):
        for floor in FLOORS:
            for function, upward in [(highest, True), (lowest, False)]:
                if holes_in(floor):
                    with self.assertRaises(Holed):
                        function(floor)
                    continue
                word, told = function(floor)
                self.assertEqual(word == "laid", lay_floor(floor)[0] == "laid")
                if word == "laid":
                    self.assertTrue(covers(floor, told))
                    self.assertEqual([corner for corner in turns_of(told) if is_upward(told, corner) == upward], [])
                    continue
                self.assertEqual(word, "closed")
                self.assertEqual(len(set(told)), len(told))
                self.assertEqual([step for step in in_steps(told) if tuple(sorted(step)) not in sides_of(floor)], [])
                self.assertLess(sum([greatest_rise(floor, one, other) for one, other in in_steps(told)]), 0)

    def test_heights_and_layings_have_one_another(self):
        for floor in LAID:
            for laying in some_layings(floor):
                if holes_in(floor):
                    with self.assertRaises(Holed):
                        heights_of(laying)
                    continue
                heights = heights_of(laying)
                self.assertEqual(laying_of(floor, heights), laying)
                for low, height, high in zip(heights_of(lowest(floor)[1]), heights, heights_of(highest(floor)[1])):
                    self.assertTrue(low <= height <= high)
                    self.assertEqual((height - low) % 4, 0)

    def test_rows_of_turns(self):
        for floor in LAID:
            if holes_in(floor):
                continue
            layings = some_layings(floor) + [highest(floor)[1], lowest(floor)[1]]
            for one, other in zip(layings, layings[1:] + layings[:1]):
                way = way_between(one, other)
                laying = one
                for corner in way:
                    apart = turns_between(laying, other)
                    laying = turned(laying, corner)
                    self.assertEqual(turns_between(laying, other), apart - 1)
                self.assertEqual(laying, other)
                self.assertEqual(len(way), turns_between(other, one))
                # No turn brings one nearer by more than 1, so no row of turns is shorter.
                for corner in turns_of(one):
                    self.assertIn(turns_between(turned(one, corner), other) - len(way), (-1, 1))

    def test_the_greater_the_lesser_and_the_middle_heights(self):
        for floor in LAID:
            if holes_in(floor):
                continue
            one, two, three = some_layings(floor)[:2] + [lowest(floor)[1]]
            heights = list(zip(heights_of(one), heights_of(two), heights_of(three)))
            self.assertEqual(heights_of(higher_of(one, two)), [max(some[:2]) for some in heights])
            self.assertEqual(heights_of(lower_of(one, two)), [min(some[:2]) for some in heights])
            self.assertEqual(heights_of(middle_of(one, two, three)), [sorted(some)[1] for some in heights])
            self.assertEqual(
                turns_between(one, two),
                turns_between(one, higher_of(one, two)) + turns_between(higher_of(one, two), two),
            )

    def test_counts(self):
        for floor in FLOORS:
            counts = []
            if not is_wide(floor):
                counts += [by_cases(floor), by_rows(floor), by_cut(floor)]
                counts += [by_cut(floor, row) for row in sorted({row for row, column in floor})[:9]]
            else:
                for function in [by_cases, by_rows, by_cut, shares_of]:
                    with self.assertRaises(TooWide):
                        function(floor)
            if not holes_in(floor):
                counts.append(by_signs(floor))
            else:
                with self.assertRaises(Holed):
                    by_signs(floor)
            self.assertLessEqual(len(set(counts)), 1)
            self.assertEqual([many > 0 for many in counts], [lay_floor(floor)[0] == "laid"] * len(counts))

    def test_numbers(self):
        chance = random.Random(102)
        for floor in FLOORS:
            if is_wide(floor):
                with self.assertRaises(TooWide):
                    laying_at(floor, 0)
                continue
            many = by_cases(floor)
            numbers = sorted({chance.randrange(many) for _ in range(20)} | {0, many - 1}) if many else []
            layings = [laying_at(floor, number) for number in numbers]
            self.assertEqual([place_of(laying) for laying in layings], numbers)
            self.assertEqual(layings, sorted(layings))
            self.assertTrue(all(covers(floor, laying) for laying in layings))
            for number in [-1, many]:
                with self.assertRaises(NoNumber):
                    laying_at(floor, number)
            if many:
                for laying in some_layings(floor):
                    self.assertEqual(laying_at(floor, place_of(laying)), laying)

    def test_fates_and_shares(self):
        for floor in FLOORS:
            shares = {} if is_wide(floor) else dict(shares_of(floor))
            for place in places_of(floor)[::3]:
                if lay_floor(floor)[0] == "short":
                    with self.assertRaises(NoLaying):
                        fate_of(floor, place)
                    continue
                word, *told = fate_of(floor, place)
                rest = [cell for cell in floor if cell not in place]
                if word == "some":
                    self.assertTrue(covers(floor, told[0]) and covers(floor, told[1]))
                    self.assertEqual([place in laying for laying in told], [True, False])
                else:
                    self.assertTrue(is_short(rest, *told) if word == "none" else is_short(floor, *told, place))
                if shares:
                    many = by_cases(floor)
                    self.assertEqual(word, {0: "none", many: "every"}.get(shares[place], "some"))
                    self.assertEqual(shares[place], by_cases(rest))

    def test_signs(self):
        for floor in LAID:
            signs = {sign_of(laying) for laying in some_layings(floor)}
            # A turn changes no sign, with holes or without.
            self.assertEqual(len(signs), 1)
            if not holes_in(floor):
                self.assertEqual(size_of(table_of(floor)), by_signs(floor) * sign_of(lay_floor(floor)[1]))

    def test_shown_and_read(self):
        for floor in FLOORS:
            rows = sorted({row for row, column in floor})
            columns = sorted({column for row, column in floor})
            if floor and (rows[-1] - rows[0] > 63 or columns[-1] - columns[0] > 63):
                with self.assertRaises(TooWide):
                    shown_floor(floor)
                continue
            there = read_floor(shown_floor(floor))
            self.assertEqual(len(there), len(floor))
            self.assertEqual(len(corners_of(there)), len(corners_of(floor)))
            self.assertEqual(holes_in(there), holes_in(floor))
            word, told = lay_floor(there)
            if word == "laid":
                self.assertEqual(read_laying(shown_laying(told)), told)


if __name__ == "__main__":
    unittest.main()
