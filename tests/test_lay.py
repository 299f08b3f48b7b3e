import random
import unittest

from floortwos.lay import lay_floor
from helpers import (
    EVEN_BUT_SHORT, FAR, JOINED, RING, all_layings, block, covers, drawn, is_short, laid_at_random, moved,
    steps_apart, subsets,
)

WITH_LAYING = [
    block(1, 2), block(2, 1), block(8, 8), block(1, 64), block(64, 1), block(2, 32, -7, -7), block(4, 16),
    RING, drawn("#### #..# ####"), drawn("##.## .##.. ##.##"), drawn("##..## ##..##"), drawn("#.# #.#"),
    drawn("###### #.##.# ###### #.##.# ######"), drawn("##.. .##. ..##"),
]


def random_floor(chance, many):
    """A floor of so many cells that hang together, grown cell by cell."""
    floor = [(0, 0)]
    while len(floor) < many:
        row, column = chance.choice(floor)
        down, right = chance.choice([(0, 1), (1, 0), (0, -1), (-1, 0)])
        if (row + down, column + right) not in floor:
            floor.append((row + down, column + right))
    return sorted(floor)


class Laying(unittest.TestCase):
    def look_at(self, floor):
        """Looks at what is told of the floor; tells the word."""
        told = lay_floor(floor)
        self.assertIs(type(told), tuple)
        self.assertEqual(len(told), 2)
        if told[0] == "laid":
            self.assertTrue(covers(floor, told[1]), (floor, told))
        else:
            self.assertEqual(told[0], "short")
            self.assertTrue(is_short(floor, told[1]), (floor, told))
        return told[0]


class TestLaid(Laying):
    def test_none(self):
        self.assertEqual(lay_floor([]), ("laid", []))

    def test_the_only_laying(self):
        self.assertEqual(lay_floor([(0, 0), (0, 1)]), ("laid", [((0, 0), (0, 1))]))
        self.assertEqual(lay_floor([(-1, 3), (0, 3)]), ("laid", [((-1, 3), (0, 3))]))
        self.assertEqual(
            lay_floor(drawn("##.. .#.. .##. ..#.")),
            ("laid", [((0, 0), (0, 1)), ((1, 1), (2, 1)), ((2, 2), (3, 2))]),
        )

    def test_several_forms(self):
        for floor in WITH_LAYING:
            with self.subTest(floor=floor):
                self.assertEqual(self.look_at(floor), "laid")

    def test_parts_and_far_away(self):
        for down, right in [(-1, -1), (0, 1), (FAR, -FAR), (-FAR, FAR)]:
            for floor in WITH_LAYING:
                self.assertEqual(self.look_at(moved(floor, down, right)), "laid")
        self.assertEqual(self.look_at([(-FAR, FAR), (-FAR, FAR + 1), (0, 0), (1, 0), (FAR, 0), (FAR, 1)]), "laid")

    def test_64_cells(self):
        chance = random.Random(21)
        for _ in range(100):
            self.assertEqual(self.look_at(laid_at_random(chance, 32)), "laid")


class TestShort(Laying):
    def test_one_cell(self):
        self.assertEqual(lay_floor([(0, 0)]), ("short", [(0, 0)]))
        self.assertEqual(lay_floor([(-3, 4)]), ("short", [(-3, 4)]))
        self.assertEqual(lay_floor([(-FAR, FAR - 1)]), ("short", [(-FAR, FAR - 1)]))

    def test_more_dark_than_light_ones_and_the_other_way(self):
        for floor in [block(1, 3), block(3, 1), block(3, 3), block(7, 9), drawn(".#. ### .#."), drawn("#.# ### #.#")]:
            for down, right in [(0, 0), (0, 1), (-1, 0), (FAR, FAR), (FAR, FAR + 1), (-FAR, 3)]:
                with self.subTest(floor=floor, down=down, right=right):
                    self.assertEqual(self.look_at(moved(floor, down, right)), "short")

    def test_an_odd_number_of_cells(self):
        for many in range(1, 64, 2):
            self.assertEqual(self.look_at(block(1, many)), "short")

    def test_without_two_corners(self):
        self.assertEqual(self.look_at(block(8, 8)[1:-1]), "short")

    def test_as_many_dark_as_light_ones(self):
        for floor in EVEN_BUT_SHORT:
            for down, right in [(0, 0), (0, 1), (-5, -5), (FAR, -FAR)]:
                there = moved(floor, down, right)
                with self.subTest(floor=there):
                    self.assertEqual(len([cell for cell in there if sum(cell) % 2 == 0]) * 2, len(there))
                    self.assertEqual(self.look_at(there), "short")

    def test_cells_that_are_all_alone(self):
        self.assertEqual(self.look_at([(2 * row, 2 * column) for row in range(8) for column in range(8)]), "short")
        self.assertEqual(self.look_at([(at, at) for at in range(-32, 32)]), "short")
        self.assertEqual(self.look_at([(3 * at, 0) for at in range(64)]), "short")

    def test_64_cells(self):
        for floor in [block(7, 7) + block(3, 5, 10, 1), JOINED]:
            for down, right in [(0, 0), (-3, 0), (FAR, -FAR)]:
                there = moved(floor, down, right)
                self.assertEqual(len(there), 64)
                self.assertEqual(len([cell for cell in there if sum(cell) % 2 == 0]), 32)
                self.assertEqual(self.look_at(there), "short")

    def test_a_hole_that_parts_the_colours(self):
        self.assertEqual(self.look_at(drawn("#### #.## ##.# ####")), "short")
        self.assertEqual(self.look_at([cell for cell in block(8, 8) if cell not in [(3, 3), (4, 4)]]), "short")


class TestEither(Laying):
    def test_all_small_floors(self):
        for floor in subsets(block(3, 4, -1, -2)):
            self.assertEqual(self.look_at(floor), "laid" if all_layings(floor) else "short")

    def test_grown_floors(self):
        chance = random.Random(22)
        words = []
        for at in range(300):
            floor = random_floor(chance, chance.choice([10, 20, 30]))
            words.append(self.look_at(floor))
            self.assertEqual(words[at], "laid" if all_layings(floor) else "short")
        self.assertEqual(sorted(set(words)), ["laid", "short"])

    def test_64_cells(self):
        chance = random.Random(23)
        words = [self.look_at(random_floor(chance, 64)) for _ in range(300)]
        self.assertIn("short", words)
        cells = block(8, 9)
        words = [self.look_at(sorted(chance.sample(cells, 64))) for _ in range(300)]
        self.assertEqual(sorted(set(words)), ["laid", "short"])

    def test_random_windows(self):
        chance = random.Random(24)
        for _ in range(300):
            floor = sorted(chance.sample(block(5, 6, -2, -3), chance.randrange(12, 29)))
            self.assertEqual(self.look_at(floor), "laid" if all_layings(floor) else "short")


class TestOwnLists(Laying):
    def test_what_is_handed_in_stays(self):
        for floor in [block(8, 8), block(3, 3), []]:
            handed = list(floor)
            told = lay_floor(handed)
            self.assertIsNot(told[1], handed)
            self.assertEqual(handed, floor)

    def test_a_changed_answer_changes_no_later_one(self):
        for floor in [block(4, 4), block(3, 3), [(0, 0)], []]:
            with self.subTest(floor=floor):
                handed = list(floor)
                first = lay_floor(handed)
                kept = list(first[1])
                first[1].reverse()
                first[1].append((9, 9))
                self.assertEqual(handed, floor)
                self.assertEqual(lay_floor(handed), (first[0], kept))
                self.assertEqual(lay_floor(list(floor)), (first[0], kept))

    def test_a_list_changed_behind_a_call_changes_no_answer(self):
        floor = block(2, 2)
        first = lay_floor(floor)
        kept = list(first[1])
        floor.pop()
        self.assertEqual(first, ("laid", kept))
        self.assertEqual(self.look_at(floor), "short")
        self.assertEqual(lay_floor(block(2, 2)), ("laid", kept))

    def test_the_same_answer_each_time(self):
        for floor in [block(8, 8), JOINED, RING, block(5, 5)]:
            first = lay_floor(list(floor))
            lay_floor(block(3, 4))
            self.assertEqual(lay_floor(list(floor)), first)


class TestHelpers(unittest.TestCase):
    """What looks at the answers tells wrong ones."""

    def test_wrong_layings(self):
        for tiles in [
            [], [((0, 0), (0, 1))], [((1, 0), (1, 1)), ((0, 0), (0, 1))], [((0, 1), (0, 0)), ((1, 0), (1, 1))],
            [((0, 0), (1, 1)), ((0, 1), (1, 0))], [((0, 0), (0, 1)), ((0, 0), (0, 1))],
            (((0, 0), (0, 1)), ((1, 0), (1, 1))),
        ]:
            self.assertFalse(covers(block(2, 2), tiles))

    def test_wrong_short_cells(self):
        floor = block(3, 3)
        self.assertTrue(is_short(floor, [(0, 0), (0, 2), (1, 1), (2, 0), (2, 2)]))
        for cells in [
            [], [(0, 0)], [(0, 0), (0, 2), (2, 0), (2, 2)], [(0, 2), (0, 0), (1, 1), (2, 0), (2, 2)], [(9, 9)],
            [(0, 0), (0, 0), (0, 2), (1, 1), (2, 0), (2, 2)], [(0, 0), (0, 1), (0, 2), (1, 1), (2, 0), (2, 2)],
        ]:
            self.assertFalse(is_short(floor, cells))
        self.assertFalse(is_short([(0, 0), (0, 1)], [(0, 0)]))
        self.assertTrue(is_short([(0, 0), (0, 1)], [(0, 0)], ((0, 0), (0, 1))))
        self.assertEqual(steps_apart((-1, 2), (1, 1)), 3)


if __name__ == "__main__":
    unittest.main()
