import random
import unittest

from floortwos.fates import fate_of
from floortwos.lay import lay_floor
from floortwos.layings import places_of
from helpers import (
    EVEN_BUT_SHORT, FAR, JOINED, RING, Refusing, all_layings, block, covers, drawn, is_short, laid_at_random, level,
    moved, moved_tiles, subsets, upright,
)

# Two blocks, one with a dark cell too many, the other with a light one, that have one place in common.
BRIDGE = level(2, 2)
BRIDGED = sorted(block(3, 3) + block(3, 3, 2, 3))


class Fates(Refusing, unittest.TestCase):
    def look_at(self, floor, place):
        """Looks at what is told of the place; tells the word."""
        told = fate_of(floor, place)
        self.assertIs(type(told), tuple)
        if told[0] == "some":
            self.assertEqual(len(told), 3)
            self.assertTrue(covers(floor, told[1]) and covers(floor, told[2]), (floor, place, told))
            self.assertEqual((place in told[1], place in told[2]), (True, False))
            return "some"
        self.assertEqual(len(told), 2)
        if told[0] == "none":
            rest = [cell for cell in floor if cell not in place]
            self.assertTrue(is_short(rest, told[1]), (floor, place, told))
            return "none"
        self.assertEqual(told[0], "every")
        self.assertTrue(is_short(floor, told[1], place), (floor, place, told))
        self.assertEqual(len([cell for cell in told[1] if cell in place]), 1)
        return "every"

    def words(self, floor):
        return [self.look_at(floor, place) for place in places_of(floor)]


def counted_word(layings, place):
    many = len([laying for laying in layings if place in laying])
    return "none" if many == 0 else "every" if many == len(layings) else "some"


class TestEvery(Fates):
    def test_the_only_place(self):
        self.assertEqual(self.look_at([(0, 0), (0, 1)], level(0, 0)), "every")
        self.assertEqual(self.look_at([(-1, 3), (0, 3)], upright(-1, 3)), "every")
        self.assertIn(fate_of([(0, 0), (0, 1)], level(0, 0)), [("every", [(0, 0)]), ("every", [(0, 1)])])

    def test_parts(self):
        floor = drawn("##.# ...# ##.. ##..")
        self.assertEqual(self.words(floor), ["every", "every", "some", "some", "some", "some"])

    def test_a_bridge(self):
        self.assertEqual(self.look_at(BRIDGED, BRIDGE), "every")
        large = sorted(block(5, 5) + block(3, 13, 4, 5))
        self.assertEqual(len(large), 64)
        self.assertEqual(self.look_at(large, level(4, 4)), "every")
        self.assertEqual(self.look_at(large, level(4, 3)), "none")
        self.assertEqual(self.look_at(large, level(0, 0)), "some")
        self.assertEqual(self.look_at(block(3, 6), BRIDGE), "some")

    def test_far_away(self):
        for down, right in [(0, 1), (-3, -3), (FAR, -FAR), (-FAR, FAR)]:
            place = moved_tiles([BRIDGE], down, right)[0]
            self.assertEqual(self.look_at(moved(BRIDGED, down, right), place), "every")


class TestNone(Fates):
    def test_the_middle_of_four(self):
        self.assertEqual(self.words(block(1, 4)), ["every", "none", "every"])
        self.assertEqual(self.words(block(4, 1, -2, -2)), ["every", "none", "every"])

    def test_a_place_that_leaves_a_cell_alone(self):
        self.assertEqual(self.words(drawn("#### #..#")), ["none", "every", "every", "none", "every"])
        self.assertEqual(self.look_at(drawn("##. ### ..#"), level(1, 1)), "none")
        self.assertEqual(self.look_at(BRIDGED, level(2, 1)), "none")

    def test_far_away(self):
        for down, right in [(0, 1), (-3, -3), (FAR, -FAR), (-FAR, FAR)]:
            self.assertEqual(self.words(block(1, 4, down, right)), ["every", "none", "every"])


class TestSome(Fates):
    def test_four_cells(self):
        self.assertEqual(self.words(block(2, 2)), ["some"] * 4)
        one, other = [level(0, 0), level(1, 0)], [upright(0, 0), upright(0, 1)]
        self.assertEqual(fate_of(block(2, 2), level(0, 0)), ("some", one, other))
        self.assertEqual(fate_of(block(2, 2), upright(0, 1)), ("some", other, one))

    def test_round_a_hole(self):
        self.assertEqual(self.words(RING), ["some"] * 8)
        self.assertEqual(self.words(drawn("#### #..# ####")), ["some"] * 10)

    def test_far_away(self):
        for down, right in [(0, 1), (-3, -3), (FAR, -FAR), (-FAR, FAR)]:
            self.assertEqual(self.words(block(2, 2, down, right)), ["some"] * 4)


class TestAny(Fates):
    def test_all_places_of_small_floors(self):
        seen = set()
        for floor in subsets(block(3, 4, -1, -2)):
            layings = all_layings(floor)
            for place in places_of(floor):
                if layings:
                    word = self.look_at(floor, place)
                    self.assertEqual(word, counted_word(layings, place))
                    seen.add(word)
                else:
                    self.assert_refused("NoLaying", fate_of, floor, place)
        self.assertEqual(seen, {"every", "none", "some"})

    def test_random_windows(self):
        chance = random.Random(31)
        for _ in range(100):
            floor = laid_at_random(chance, chance.randrange(4, 11))
            layings = all_layings(floor)
            for place in places_of(floor):
                self.assertEqual(self.look_at(floor, place), counted_word(layings, place))

    def test_64_cells(self):
        self.assertEqual(self.words(block(8, 8)), ["some"] * 112)
        self.assertEqual(self.words(block(1, 64)), (["every", "none"] * 32)[:63])
        self.assertEqual(self.words(block(64, 1)), (["every", "none"] * 32)[:63])

    def test_random_ones_of_64_cells(self):
        chance = random.Random(32)
        for _ in range(10):
            self.assertIn("some", self.words(laid_at_random(chance, 32)))


class TestRefused(Fates):
    def test_a_tile_that_is_no_place(self):
        for floor, tile in [
            ([], level(0, 0)), ([], upright(-3, 3)), ([(0, 0)], level(0, 0)), ([(0, 0)], upright(-1, 0)),
            (block(2, 2), level(0, 1)), (block(2, 2), level(0, -1)), (block(2, 2), upright(1, 0)),
            (block(2, 2), level(5, 5)), (block(2, 2), level(FAR, -FAR)), (RING, level(1, 0)), (RING, upright(1, 1)),
            (block(1, 4), upright(0, 0)), (block(8, 8), level(7, 7)), (block(8, 8), upright(7, 7)),
        ]:
            with self.subTest(floor=floor, tile=tile):
                self.assert_refused("NoTile", fate_of, floor, tile)

    def test_a_floor_without_a_laying(self):
        for floor, place in [
            (block(1, 3), level(0, 0)), (block(1, 3), level(0, 1)), (block(3, 3), upright(1, 1)), (JOINED, level(1, 6)),
            (block(8, 8)[1:-1], level(3, 3)), (block(1, 2) + [(5, 5)], level(0, 0)),
        ]:
            with self.subTest(floor=floor, place=place):
                self.assert_refused("NoLaying", fate_of, floor, place)
        for floor in EVEN_BUT_SHORT:
            for place in places_of(floor):
                self.assert_refused("NoLaying", fate_of, floor, place)

    def test_no_tile_is_refused_ahead_of_no_laying(self):
        for floor, tile in [
            (block(1, 3), level(0, 2)), (block(1, 3), upright(0, 0)), (block(3, 3), level(1, 2)),
            (block(8, 8)[1:-1], level(0, 0)), ([(0, 0), (1, 1)], level(0, 0)), (JOINED, level(9, 9)),
        ]:
            with self.subTest(floor=floor, tile=tile):
                self.assert_refused("NoTile", fate_of, floor, tile)


class TestOwnLists(Fates):
    def test_what_is_handed_in_stays(self):
        for floor in [block(1, 4), block(2, 2), block(8, 8)]:
            handed = list(floor)
            self.words(handed)
            self.assertEqual(handed, floor)
        handed = block(3, 3)
        self.assert_refused("NoLaying", fate_of, handed, level(0, 0))
        self.assertEqual(handed, block(3, 3))

    def test_a_changed_answer_changes_no_later_one(self):
        for floor, place in [(block(1, 4), level(0, 0)), (block(1, 4), level(0, 1)), (block(4, 4), level(0, 0))]:
            with self.subTest(floor=floor, place=place):
                handed = list(floor)
                first = fate_of(handed, place)
                kept = tuple(list(told) if type(told) is list else told for told in first)
                for told in first[1:]:
                    told.reverse()
                    told.append((9, 9))
                self.assertEqual(handed, floor)
                self.assertEqual(fate_of(handed, place), kept)
                self.assertEqual(fate_of(list(floor), place), kept)

    def test_a_changed_laying_changes_not_the_other_one(self):
        told = fate_of(block(2, 2), level(0, 0))
        told[1].clear()
        self.assertEqual(told[2], [upright(0, 0), upright(0, 1)])

    def test_a_fate_changes_no_other_answer(self):
        floor = block(4, 4)
        first = lay_floor(floor)
        self.words(floor)
        self.assertEqual(lay_floor(floor), first)
        self.assertEqual(len(places_of(floor)), 24)

    def test_a_list_changed_behind_a_call_changes_no_answer(self):
        floor = block(2, 2)
        first = fate_of(floor, level(0, 0))
        floor.pop()
        floor.pop()
        self.assertEqual(first, ("some", [level(0, 0), level(1, 0)], [upright(0, 0), upright(0, 1)]))
        self.assertEqual(self.look_at(floor, level(0, 0)), "every")


if __name__ == "__main__":
    unittest.main()
