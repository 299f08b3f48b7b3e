import random
import unittest

from floortwos import moves
from floortwos.counts import by_cases
from floortwos.fates import fate_of
from floortwos.floors import holes_in
from floortwos.layings import places_of
from floortwos.moves import Chain, Mirror, Move, Quarter, Shift
from floortwos.signs import by_signs
from floortwos.ways import turns_between
from helpers import (
    FAR, FULL, RING, WHEEL, all_layings, block, cells_of, covers, drawn, laid_at_random, level, level_rows, moved,
    moved_tiles, upright,
)

CELLS = [(0, 0), (0, 1), (1, 0), (-3, 5), (7, -2), (-4, -9), (FAR, -FAR), (-FAR, FAR)]
FLOORS = [
    [], block(1, 2), block(3, 3, -1, -1), block(2, 3, 5, -9), RING, drawn("##.# .### #..."), block(8, 8, FAR, -FAR),
    [(0, 7), (FAR, -FAR)],
]
LAYINGS = [
    [], [level(0, 0)], [upright(-3, 2)], WHEEL, FULL, moved_tiles(WHEEL, FAR, -FAR), level_rows(block(1, 64)),
    [level(0, 0), upright(0, 2), level(1, 0)], [upright(row, column) for row in (0, 2, 4, 6) for column in range(8)],
]
NAMES = ["on_cell", "on_floor", "on_laying", "back"]


def word_by_word(steps, cell):
    """What plain steps, named by their first letters, do with a cell."""
    row, column = cell
    for name, *numbers in steps:
        if name == "S":
            row, column = row + numbers[0], column + numbers[1]
        if name == "Q":
            row, column = column, 0 - row
        if name == "M":
            row, column = row, 0 - column
    return (row, column)


def made(step):
    """The move of a plain step."""
    name, *numbers = step
    return {"S": Shift, "Q": Quarter, "M": Mirror, "P": Move}[name](*numbers)


def chained(chance, steps):
    """A chain of the steps, put together in some way."""
    if len(steps) == 1:
        return made(steps[0])
    at = chance.randrange(1, len(steps))
    return Chain(chained(chance, steps[:at]), chained(chance, steps[at:]))


def steps_at_random(chance, many):
    return [
        chance.choice([("P",), ("Q",), ("M",), ("S", chance.randrange(-9, 10), chance.randrange(-9, 10))])
        for _ in range(many)
    ]


def all_moves():
    """Some moves of each kind, each with the steps that it takes."""
    chance = random.Random(91)
    told = [[("P",)], [("Q",)], [("M",)], [("S", 0, 0)], [("S", 2, -3)], [("S", -FAR, FAR)], [("S", 0, 1)]]
    told += [steps_at_random(chance, many) for many in (2, 2, 3, 3, 4, 5, 8, 13, 21, 34, 60, 60)]
    told += [[("Q",)] * 60, [("M",), ("Q",)] * 30, [("S", 1, 2), ("Q",)] * 30]
    return [(chained(chance, steps), steps) for steps in told]


class TestMoves(unittest.TestCase):
    def look_at(self, move, steps):
        """Looks at what the move does with cells, floors and layings."""
        self.assertIsInstance(move, Move)
        for cell in CELLS:
            told = move.on_cell(cell)
            self.assertEqual(told, word_by_word(steps, cell))
            self.assertEqual([type(told), type(told[0]), type(told[1])], [tuple, int, int])
        for floor in FLOORS:
            self.assertEqual(move.on_floor(floor), sorted([word_by_word(steps, cell) for cell in floor]))
        for laying in LAYINGS:
            told = move.on_laying(laying)
            self.assertTrue(covers(move.on_floor(cells_of(laying)), told))
            self.assertEqual(
                told, sorted([tuple(sorted([word_by_word(steps, cell) for cell in tile])) for tile in laying])
            )

    def test_the_plain_move(self):
        for cell in CELLS:
            self.assertEqual(Move().on_cell(cell), cell)
        for floor in FLOORS:
            self.assertEqual(Move().on_floor(floor), floor)
        for laying in LAYINGS:
            self.assertEqual(Move().on_laying(laying), laying)

    def test_cells(self):
        self.assertEqual(Shift(2, -3).on_cell((1, 1)), (3, -2))
        self.assertEqual(Shift(FAR, -FAR).on_cell((-FAR, FAR)), (0, 0))
        self.assertEqual(Quarter().on_cell((2, 5)), (5, -2))
        self.assertEqual(Quarter().on_cell((-2, -5)), (-5, 2))
        self.assertEqual(Mirror().on_cell((2, 5)), (2, -5))
        self.assertEqual(Chain(Quarter(), Shift(1, 0)).on_cell((2, 5)), (6, -2))
        self.assertEqual(Chain(Shift(1, 0), Quarter()).on_cell((2, 5)), (5, -3))
        self.assertEqual(Chain(Mirror(), Quarter()).on_cell((2, 5)), (-5, -2))
        self.assertEqual(Chain(Quarter(), Mirror()).on_cell((2, 5)), (5, 2))

    def test_floors_are_sorted_again(self):
        floor = [(0, 0), (0, 1), (1, 1)]
        self.assertEqual(Quarter().on_floor(floor), [(0, 0), (1, -1), (1, 0)])
        self.assertEqual(Mirror().on_floor(floor), [(0, -1), (0, 0), (1, -1)])
        self.assertEqual(Shift(-5, 5).on_floor(floor), [(-5, 5), (-5, 6), (-4, 6)])

    def test_layings_are_sorted_again_with_the_lesser_cell_of_a_tile_first(self):
        laying = [level(0, 0), upright(0, 2), level(1, 0)]
        self.assertEqual(Mirror().on_laying(laying), [upright(0, -2), level(0, -1), level(1, -1)])
        self.assertEqual(Quarter().on_laying(laying), [upright(0, -1), upright(0, 0), level(2, -1)])
        self.assertEqual(Quarter().back().on_laying([upright(0, 0)]), [level(0, 0)])
        self.assertEqual(Quarter().on_laying([upright(0, 0)]), [level(0, -1)])

    def test_each_kind_and_chains(self):
        for move, steps in all_moves():
            self.look_at(move, steps)

    def test_sixty_moves_one_in_another(self):
        for steps in [[("Q",), ("S", 1, 0)] * 30, [("M",), ("S", 0, 5), ("Q",)] * 20, [("P",)] * 60]:
            left, right = made(steps[0]), made(steps[-1])
            for step in steps[1:]:
                left = Chain(left, made(step))
            for step in steps[-2::-1]:
                right = Chain(made(step), right)
            for move in [left, right]:
                self.look_at(move, steps)
                for cell in CELLS:
                    self.assertEqual(move.back().on_cell(move.on_cell(cell)), cell)

    def test_one_move_in_several_places(self):
        quarter = Quarter()
        half = Chain(quarter, quarter)
        whole = Chain(half, half)
        self.look_at(half, [("Q",)] * 2)
        self.look_at(whole, [("Q",)] * 4)
        self.look_at(whole, [("P",)])

    def test_four_quarters_and_two_mirrors(self):
        for cell in CELLS:
            told = cell
            for turn in range(1, 5):
                told = Quarter().on_cell(told)
                self.assertEqual(told == cell, turn == 4 or cell == (0, 0))
            self.assertEqual(Mirror().on_cell(Mirror().on_cell(cell)), cell)


class TestBack(unittest.TestCase):
    def test_ahead_of_and_behind_the_move(self):
        for move, steps in all_moves():
            back = move.back()
            self.assertIsInstance(back, Move)
            for both in [Chain(move, back), Chain(back, move), Chain(back, back.back())]:
                for cell in CELLS:
                    self.assertEqual(both.on_cell(cell), cell)
                for floor in FLOORS:
                    self.assertEqual(both.on_floor(floor), floor)
                for laying in LAYINGS:
                    self.assertEqual(both.on_laying(laying), laying)
            for laying in LAYINGS:
                self.assertEqual(back.on_laying(move.on_laying(laying)), laying)
                self.assertEqual(move.on_laying(back.on_laying(laying)), laying)
                self.assertEqual(back.on_floor(move.on_floor(cells_of(laying))), cells_of(laying))

    def test_the_back_of_a_back(self):
        for move, steps in all_moves():
            other = move
            for _ in range(10):
                other = other.back().back()
                self.assertIsInstance(other, Move)
                for cell in CELLS:
                    self.assertEqual(other.on_cell(cell), word_by_word(steps, cell))

    def test_a_back_stays_though_a_chain_goes_on(self):
        move = Shift(1, 2)
        back = move.back()
        Chain(move, back).back()
        self.assertEqual((move.on_cell((0, 0)), back.on_cell((0, 0))), ((1, 2), (-1, -2)))


class TestClasses(unittest.TestCase):
    def test_under_move(self):
        for each in [Shift, Quarter, Mirror, Chain]:
            self.assertTrue(issubclass(each, Move))
        self.assertEqual([type(Move()), type(Shift(1, 2)), type(Chain(Move(), Move()))], [Move, Shift, Chain])

    def test_each_method_stands_in_each_class(self):
        for each in vars(moves).values():
            if isinstance(each, type):
                self.assertEqual([name for name in NAMES if name not in vars(each)], [])


class TestWhatStays(unittest.TestCase):
    def setUp(self):
        self.moves = [
            Shift(0, 1), Shift(-3, -8), Shift(FAR, -FAR), Quarter(), Mirror(), Quarter().back(),
            Chain(Quarter(), Chain(Mirror(), Shift(2, 3))),
        ]

    def test_counts(self):
        chance = random.Random(92)
        floors = [block(8, 8), block(3, 3), RING, block(4, 6), [], [(0, 0)]]
        floors += [sorted(chance.sample(block(7, 7), 40)) for _ in range(10)]
        for floor in floors:
            for move in self.moves:
                there = move.on_floor(floor)
                self.assertEqual(by_cases(there), by_cases(floor))
                if not holes_in(floor):
                    self.assertEqual(by_signs(there), by_signs(floor))
                self.assertEqual(holes_in(there), holes_in(floor))

    def test_fates(self):
        chance = random.Random(93)
        for _ in range(10):
            floor = laid_at_random(chance, 8)
            for move in self.moves:
                for place in places_of(floor):
                    there = move.on_laying([place])[0]
                    self.assertEqual(fate_of(move.on_floor(floor), there)[0], fate_of(floor, place)[0])

    def test_distances(self):
        for floor in [block(3, 4), block(4, 4), drawn("##.. ##.. ..## ..##")]:
            layings = all_layings(floor)
            for move in self.moves:
                for one, other in zip(layings, layings[::-1]):
                    self.assertEqual(
                        turns_between(move.on_laying(one), move.on_laying(other)), turns_between(one, other)
                    )


class TestOwnLists(unittest.TestCase):
    def test_what_is_handed_in_stays(self):
        for move, steps in all_moves():
            for floor, laying in zip(FLOORS, LAYINGS):
                handed, tiles = list(floor), list(laying)
                self.assertIsNot(move.on_floor(handed), handed)
                self.assertIsNot(move.on_laying(tiles), tiles)
                self.assertEqual((handed, tiles), (floor, laying))

    def test_a_changed_answer_changes_no_later_one(self):
        for move, steps in all_moves():
            for told, handed in [(move.on_floor, block(2, 3)), (move.on_laying, FULL), (move.on_laying, [])]:
                given = list(handed)
                first = told(given)
                kept = list(first)
                first.reverse()
                first.append((9, 9))
                self.assertEqual(given, handed)
                self.assertEqual(told(given), kept)

    def test_a_list_changed_behind_a_call_changes_no_answer(self):
        floor = block(2, 2)
        told = Shift(1, 0).on_floor(floor)
        floor.clear()
        self.assertEqual(told, moved(block(2, 2), 1, 0))


if __name__ == "__main__":
    unittest.main()
