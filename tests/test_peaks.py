import random
import unittest

from floortwos.floors import corners_of, holes_in, sides_of
from floortwos.heights import heights_of, is_upward
from floortwos.lay import lay_floor
from floortwos.layings import turns_of
from floortwos.peaks import highest, lowest
from helpers import (
    EVEN_BUT_SHORT, FAR, HOLED_LAYINGS, JOINED, RING, Refusing, all_layings, block, cells_of, covers, drawn,
    greatest_rise, in_steps, laid_at_random, level, moved, subsets, upright,
)

# It has a laying of level tiles alone and one of upright tiles alone.
AZTEC = drawn("...##... ..####.. .######. ######## ######## .######. ..####.. ...##...")


def less_one(chance, floor, colour):
    """The floor less one of its cells, so that no hole comes of it."""
    while True:
        gone = chance.choice([cell for cell in floor if sum(cell) % 2 == colour])
        rest = [cell for cell in floor if cell != gone]
        if not holes_in(rest):
            return rest


class Peaks(Refusing, unittest.TestCase):
    def look_at_closed(self, floor, corners):
        self.assertIs(type(corners), list)
        self.assertEqual(len(set(corners)), len(corners))
        sides = sides_of(floor)
        for one, other in in_steps(corners):
            self.assertIn(tuple(sorted([one, other])), sides)
        self.assertLess(sum([greatest_rise(floor, one, other) for one, other in in_steps(corners)]), 0)

    def look_at_laid(self, floor, high, low):
        self.assertTrue(covers(floor, high) and covers(floor, low), (floor, high, low))
        self.assertEqual([corner for corner in turns_of(high) if is_upward(high, corner)], [])
        self.assertEqual([corner for corner in turns_of(low) if not is_upward(low, corner)], [])

    def look_at(self, floor):
        """Looks at what is told of the floor; tells the word."""
        high, low = highest(floor), lowest(floor)
        for told in [high, low]:
            self.assertIs(type(told), tuple)
            self.assertEqual(len(told), 2)
            self.assertEqual(told[0] == "laid", lay_floor(floor)[0] == "laid", floor)
        if high[0] == "laid":
            self.look_at_laid(floor, high[1], low[1])
        else:
            for word, corners in [high, low]:
                self.assertEqual(word, "closed")
                self.look_at_closed(floor, corners)
        return high[0]

    def compare(self, floor):
        """Compares with the heights of all layings."""
        layings = all_layings(floor)
        self.assertEqual(self.look_at(floor), "laid" if layings else "closed", floor)
        if layings:
            heights = [heights_of(laying) for laying in layings]
            self.assertEqual(heights_of(highest(floor)[1]), [max(some) for some in zip(*heights)])
            self.assertEqual(heights_of(lowest(floor)[1]), [min(some) for some in zip(*heights)])


class TestLaid(Peaks):
    def test_no_cell_and_one_tile(self):
        self.assertEqual((highest([]), lowest([])), (("laid", []), ("laid", [])))
        self.assertEqual(highest(block(1, 2)), ("laid", [level(0, 0)]))
        self.assertEqual(lowest(block(2, 1, -3, 3)), ("laid", [upright(-3, 3)]))

    def test_four_cells_at_an_even_and_at_an_odd_corner(self):
        self.assertEqual(highest(block(2, 2)), ("laid", [level(0, 0), level(1, 0)]))
        self.assertEqual(lowest(block(2, 2)), ("laid", [upright(0, 0), upright(0, 1)]))
        self.assertEqual(highest(block(2, 2, 0, 1)), ("laid", [upright(0, 1), upright(0, 2)]))
        self.assertEqual(lowest(block(2, 2, -1, 0)), ("laid", [level(-1, 0), level(0, 0)]))

    def test_far_away(self):
        for down, right in [(FAR, -FAR), (-FAR, FAR), (-FAR, -FAR)]:
            there = [level(down, right), level(down + 1, right)]
            self.assertEqual(highest(block(2, 2, down, right)), ("laid", there))
            self.assertEqual(lowest(block(2, 2, down, right + 1)), ("laid", [
                level(down, right + 1), level(down + 1, right + 1),
            ]))

    def test_several_parts(self):
        floor = sorted(block(2, 2) + block(2, 2, 0, 5) + block(2, 2, FAR, FAR))
        told = highest(floor)
        self.assertEqual(told[0], "laid")
        self.assertEqual(told[1], sorted([
            level(0, 0), level(1, 0), upright(0, 5), upright(0, 6), level(FAR, FAR), level(FAR + 1, FAR),
        ]))
        self.compare(floor)
        self.compare(drawn("##.## ##.## ..... .##.. .##.."))
        self.compare(drawn("##... ##... ..##. ..##. ....#. ....#."))

    def test_64_cells(self):
        for floor in [
            block(8, 8), block(8, 8, -3, -4), block(1, 64), block(64, 1), block(2, 32), block(32, 2, -FAR, FAR),
            block(4, 16), sorted(block(4, 4) + block(4, 4, 4, 4) + block(4, 4, 9, 9) + block(4, 4, 20, -20)),
        ]:
            self.assertEqual(len(floor), 64)
            self.assertEqual(self.look_at(floor), "laid")
        self.assertEqual(self.look_at(AZTEC), "laid")

    def test_the_diamond_has_all_tiles_one_way_at_the_top(self):
        told = sorted([highest(AZTEC)[1], lowest(AZTEC)[1]])
        flat = [(AZTEC[at], AZTEC[at + 1]) for at in range(0, len(AZTEC), 2)]
        self.assertIn(flat, told)
        self.assertEqual([tile for laying in told if laying != flat for tile in laying if tile[0][0] == tile[1][0]], [])


class TestClosed(Peaks):
    def test_one_cell(self):
        for cell in [(0, 0), (0, 1), (-3, -3), (FAR, -FAR)]:
            self.assertEqual(self.look_at([cell]), "closed")
            self.assertEqual(sorted(highest([cell])[1]), corners_of([cell]))
            self.assertEqual(sorted(lowest([cell])[1]), corners_of([cell]))
            # The other way round the rises would come to 4.
            row, column = cell
            round_it = in_steps([cell, (row, column + 1), (row + 1, column + 1), (row + 1, column)])
            self.assertEqual(in_steps(highest([cell])[1])[0] in round_it, (row + column) % 2 == 0)

    def test_more_cells_of_one_colour(self):
        for floor in [
            block(1, 3), block(3, 3), block(3, 3, 0, 1), block(7, 9), block(9, 7, -3, -4), block(8, 8)[:-1],
            block(8, 8)[1:], block(8, 8)[1:-1], block(1, 63), JOINED[:-1],
        ]:
            self.assertEqual(self.look_at(floor), "closed")

    def test_as_many_dark_as_light_cells(self):
        for floor in EVEN_BUT_SHORT + [JOINED]:
            for down, right in [(0, 0), (0, 1), (-FAR, FAR)]:
                if not holes_in(floor):
                    self.assertEqual(self.look_at(moved(floor, down, right)), "closed")

    def test_one_part_of_several(self):
        for floor in [
            block(2, 2) + [(5, 5)], [(5, 5)] + block(2, 2, 9, 9), block(1, 2) + block(3, 3, 5, 0),
            block(3, 3) + block(3, 3, 5, 0), [(0, 0), (0, 3)], sorted(block(6, 8) + block(3, 5, 9, 9)),
            [(0, 2 * column) for column in range(64)], [(3 * row, row) for row in range(64)],
        ]:
            self.assertEqual(self.look_at(floor), "closed")

    def test_by_a_corner(self):
        self.assertEqual(self.look_at([(0, 0), (1, 1)]), "closed")
        self.assertEqual(self.look_at([(row, row) for row in range(64)]), "closed")
        self.assertEqual(self.look_at(sorted([(0, 0), (1, 1), (1, 2), (2, 3)])), "closed")


class TestAny(Peaks):
    def test_all_small_floors(self):
        words = set()
        for floor in subsets(block(3, 4, -1, -2)):
            if holes_in(floor):
                self.assert_refused("Holed", highest, floor)
                self.assert_refused("Holed", lowest, floor)
            else:
                self.compare(floor)
                words.add(highest(floor)[0])
        self.assertEqual(words, {"laid", "closed"})

    def test_random_ones(self):
        chance = random.Random(43)
        for _ in range(150):
            floor = laid_at_random(chance, chance.randrange(3, 11))
            if not holes_in(floor):
                self.compare(floor)

    def test_random_windows(self):
        chance = random.Random(44)
        words = set()
        for _ in range(300):
            gone = chance.sample(block(6, 8), chance.randrange(4, 12))
            floor = [cell for cell in block(6, 8) if cell not in gone]
            if not holes_in(floor):
                words.add(self.look_at(floor))
        self.assertEqual(words, {"laid", "closed"})

    def test_random_ones_of_64_cells(self):
        chance = random.Random(45)
        words = set()
        for _ in range(40):
            floor = block(9, 9)
            for turn in range(17):
                floor = less_one(chance, floor, turn % 2)
            self.assertEqual(len(floor), 64)
            words.add(self.look_at(floor))
        self.assertEqual(words, {"laid", "closed"})


class TestRefused(Peaks):
    def test_holes(self):
        floors = [cells_of(laying) for laying in HOLED_LAYINGS] + [
            moved(RING, FAR, -FAR), block(5, 5)[:12] + block(5, 5)[13:], sorted(RING + [(9, 9)]),
            [(0, 1), (1, 0), (1, 2), (2, 1)],
        ]
        for floor in floors:
            self.assert_refused("Holed", highest, floor)
            self.assert_refused("Holed", lowest, floor)


class TestOwnLists(Peaks):
    def test_what_is_handed_in_stays(self):
        for floor in [[], block(8, 8), block(3, 3), JOINED]:
            handed = list(floor)
            highest(handed)
            lowest(handed)
            self.assertEqual(handed, floor)

    def test_a_changed_answer_changes_no_later_one(self):
        for told in [highest, lowest]:
            for floor in [[], block(1, 2), block(4, 4), block(3, 3)]:
                handed = list(floor)
                first = told(handed)
                kept = (first[0], list(first[1]))
                first[1].reverse()
                first[1].append((9, 9))
                self.assertEqual(handed, floor)
                self.assertEqual(told(handed), kept)
                self.assertEqual(told(list(floor)), kept)

    def test_a_list_changed_behind_a_call_changes_no_answer(self):
        floor = block(2, 2)
        told = highest(floor)
        floor.pop()
        self.assertEqual(told, ("laid", [level(0, 0), level(1, 0)]))
        self.assertEqual(self.look_at(floor), "closed")


if __name__ == "__main__":
    unittest.main()
