import itertools
import random
import unittest

from floortwos.texts import read_floor, read_laying
from helpers import FULL, Refusing, block, level, level_rows, upright

OTHER = {"<": (0, 1, ">"), ">": (0, -1, "<"), "^": (1, 0, "v"), "v": (-1, 0, "^")}
DOTS = "." * 64
PAIRS = "<>" * 32


def half_is_alone(written, place):
    down, right, sign = OTHER[written[place]]
    return written.get((place[0] + down, place[1] + right)) != sign


def first_wrong(rows, signs):
    """The least of all wrong places, each kind of them listed by itself; None where there is none."""
    written = {(at, to): sign for at, row in enumerate(rows) for to, sign in enumerate(row)}
    wrong = [place for place in written if written[place] not in signs]
    wrong += [place for place in written if written[place] in "#<>^v"][64:]
    wrong += [place for place in written if written[place] in OTHER and half_is_alone(written, place)]
    wrong += [(at, 64) for at, row in enumerate(rows) if len(row) > 64]
    if len(rows) > 64:
        wrong.append((64, 0))
    return min(wrong) if wrong else None


class Reading(Refusing):
    def assert_wrong(self, read, rows, place):
        told = self.assert_refused("NoText", read, rows)
        self.assertEqual((told.row, told.column), place)
        self.assertEqual([type(told.row), type(told.column)], [int, int])

    def assert_read_or_wrong(self, read, rows, signs):
        """Whether what is told is as the oracle tells; where it can be read, what was read."""
        place = first_wrong(rows, signs)
        if place is None:
            return read(rows)
        self.assert_wrong(read, rows, place)
        return None


class TestReadFloor(Reading, unittest.TestCase):
    def test_no_rows_and_rows_without_signs(self):
        for rows in [[], [""], ["", "", ""], [""] * 64, ["."], ["...", "", "."], [DOTS] * 64]:
            with self.subTest(rows=len(rows)):
                self.assertEqual(read_floor(rows), [])

    def test_ordinary_ones(self):
        self.assertEqual(read_floor(["#"]), [(0, 0)])
        self.assertEqual(read_floor([".#", "##"]), [(0, 1), (1, 0), (1, 1)])
        self.assertEqual(read_floor(["###", "#.#", "###"]), [cell for cell in block(3, 3) if cell != (1, 1)])

    def test_rows_of_different_lengths(self):
        self.assertEqual(read_floor(["#", "", "..##", ".#.", "#"]), [(0, 0), (2, 2), (2, 3), (3, 1), (4, 0)])

    def test_a_list_of_tuples(self):
        told = read_floor(["##"])
        self.assertEqual([type(told), type(told[0]), type(told[1])], [list, tuple, tuple])

    def test_a_sign_of_no_kind_or_of_the_other_kind(self):
        for sign in [" ", "x", "<", ">", "^", "v", "\n", "\t", "0", "+", ",", "\u2588", "\uff03"]:
            for rows, place in [
                ([sign], (0, 0)), (["#" + sign], (0, 1)), ([".", "#.#", "." + sign + "#"], (2, 1)),
                (["", sign], (1, 0)), (["#"] * 63 + [sign], (63, 0)), (["." * 63 + sign], (0, 63)),
            ]:
                with self.subTest(sign=sign, place=place):
                    self.assert_wrong(read_floor, rows, place)

    def test_tiles_are_of_the_other_kind(self):
        for rows in [["<>"], ["^", "v"], ["<>^", "^.v", "v<>"]]:
            self.assert_wrong(read_floor, rows, (0, 0))
            self.assert_wrong(read_floor, ["#"] + rows, (1, 0))

    def test_the_first_of_two_signs(self):
        self.assert_wrong(read_floor, ["..x", "x"], (0, 2))
        self.assert_wrong(read_floor, ["..", ".x", "x"], (1, 1))
        self.assert_wrong(read_floor, [".xx"], (0, 1))

    def test_64_cells_and_65(self):
        self.assertEqual(read_floor(["#" * 8] * 8), block(8, 8))
        self.assertEqual(read_floor(["#" * 64]), block(1, 64))
        self.assertEqual(read_floor(["#"] * 64), block(64, 1))
        self.assert_wrong(read_floor, ["#" * 8] * 8 + ["#"], (8, 0))
        self.assert_wrong(read_floor, ["#" * 8] * 8 + ["....#.#"], (8, 4))
        self.assert_wrong(read_floor, ["#" * 8] * 9, (8, 0))
        self.assert_wrong(read_floor, ["#" * 13] * 5, (4, 12))
        self.assert_wrong(read_floor, ["#" * 60] * 2, (1, 4))
        self.assert_wrong(read_floor, ["#" * 64, ".", "..#"], (2, 2))

    def test_64_signs_and_65(self):
        self.assertEqual(read_floor(["." * 63 + "#"]), [(0, 63)])
        self.assert_wrong(read_floor, ["." * 65], (0, 64))
        self.assert_wrong(read_floor, ["." * 70], (0, 64))
        self.assert_wrong(read_floor, ["#" * 65], (0, 64))
        self.assert_wrong(read_floor, [".", "", DOTS + "#", "." * 65], (2, 64))
        self.assert_wrong(read_floor, [DOTS + "x"], (0, 64))
        self.assert_wrong(read_floor, [DOTS + ".x"], (0, 64))

    def test_64_rows_and_65(self):
        self.assertEqual(read_floor([""] * 63 + ["#"]), [(63, 0)])
        for last in ["", ".", "#", "x", ".x", "." * 65]:
            with self.subTest(last=last):
                self.assert_wrong(read_floor, [""] * 64 + [last], (64, 0))
                self.assert_wrong(read_floor, ["#"] * 64 + [last], (64, 0))
        self.assert_wrong(read_floor, ["."] * 70, (64, 0))

    def test_the_first_of_two_kinds(self):
        self.assert_wrong(read_floor, ["#" * 65, "x"], (0, 64))
        self.assert_wrong(read_floor, ["x" + "." * 64], (0, 0))
        self.assert_wrong(read_floor, ["." * 65, "#" * 64, "#"], (0, 64))
        self.assert_wrong(read_floor, ["#" * 64, "..#x"], (1, 2))
        self.assert_wrong(read_floor, ["#" * 64, "..x#"], (1, 2))
        self.assert_wrong(read_floor, ["#" * 64, "#" + "." * 64], (1, 0))
        self.assert_wrong(read_floor, ["#" * 64, DOTS + "#", "#"], (1, 64))
        self.assert_wrong(read_floor, ["." * 65] + [""] * 64, (0, 64))
        self.assert_wrong(read_floor, ["."] * 63 + ["..x", "x"], (63, 2))
        self.assert_wrong(read_floor, ["."] * 63 + ["." * 65, "x"], (63, 64))
        self.assert_wrong(read_floor, ["#" * 64] + ["."] * 62 + [".#", "x"], (63, 1))

    def test_all_small_ones(self):
        for rows in itertools.product(["", "#", ".", "<", "##", "#.", ".#", "..", "#x", "x#", ".x"], repeat=3):
            told = self.assert_read_or_wrong(read_floor, list(rows), "#.")
            if told is not None:
                wanted = [(at, to) for at, row in enumerate(rows) for to, sign in enumerate(row) if sign == "#"]
                self.assertEqual(told, wanted)

    def test_many_large_ones(self):
        chance = random.Random(11)
        for _ in range(400):
            weights = [chance.choice([1, 10, 40]), 40, chance.choice([0, 0, 0.1])]
            rows = [
                "".join(chance.choices("#.x", weights, k=chance.choice([0, 1, 5, 20, 63, 64, 65])))
                for _ in range(chance.choice([1, 3, 10, 63, 64, 65, 66]))
            ]
            self.assert_read_or_wrong(read_floor, rows, "#.")


class TestReadLaying(Reading, unittest.TestCase):
    def test_no_rows_and_rows_without_signs(self):
        for rows in [[], [""], ["", "", ""], [""] * 64, ["."], ["...", "", "."], [DOTS] * 64]:
            with self.subTest(rows=len(rows)):
                self.assertEqual(read_laying(rows), [])

    def test_ordinary_ones(self):
        self.assertEqual(read_laying(["<>"]), [level(0, 0)])
        self.assertEqual(read_laying(["^", "v"]), [upright(0, 0)])
        self.assertEqual(read_laying(["^^", "vv"]), [upright(0, 0), upright(0, 1)])
        self.assertEqual(read_laying(["<>^", "^.v", "v<>"]), [level(0, 0), upright(0, 2), upright(1, 0), level(2, 1)])
        self.assertEqual(read_laying(["^^^", "vvv", "^<>", "v.."]), [
            upright(0, 0), upright(0, 1), upright(0, 2), upright(2, 0), level(2, 1),
        ])

    def test_rows_of_different_lengths(self):
        self.assertEqual(
            read_laying(["", "..^", "<>v<>", "^", "v."]),
            [upright(1, 2), level(2, 0), level(2, 3), upright(3, 0)],
        )

    def test_a_sign_of_no_kind_or_of_the_other_kind(self):
        for sign in [" ", "x", "#", "V", "-", "|", "\n", "\u2039", "\u02c5", "0"]:
            for rows, place in [
                ([sign], (0, 0)), (["<>" + sign], (0, 2)), (["^", "v" + sign], (1, 1)), (["", "", ".." + sign], (2, 2)),
                (["."] * 63 + [sign], (63, 0)), (["." * 63 + sign], (0, 63)),
            ]:
                with self.subTest(sign=sign, place=place):
                    self.assert_wrong(read_laying, rows, place)

    def test_halves_whose_other_half_is_not_there(self):
        for rows, place in [
            (["<"], (0, 0)), ([">"], (0, 0)), (["^"], (0, 0)), (["v"], (0, 0)),
            (["<."], (0, 0)), ([".>"], (0, 1)), (["^", "."], (0, 0)), ([".", "v"], (1, 0)), (["^", ""], (0, 0)),
            (["<<"], (0, 0)), (["<<>"], (0, 0)), (["<>>"], (0, 2)), (["<>>>"], (0, 2)), (["<^", ">v"], (0, 0)),
            (["^", "^", "v"], (0, 0)), (["^", "v", "v"], (2, 0)), (["^.", ".v"], (0, 0)), ([".^", "v."], (0, 1)),
            (["<.>"], (0, 0)), (["^", ".", "v"], (0, 0)), (["<>", "<>", "<^"], (2, 0)), (["<>", "^v"], (1, 0)),
            (["<", ">"], (0, 0)), (["^v"], (0, 0)), (["..<>", "..^", ""], (1, 2)), (["<v"], (0, 0)),
            (["^", ">"], (0, 0)),
        ]:
            with self.subTest(rows=rows):
                self.assert_wrong(read_laying, rows, place)

    def test_the_last_sign_or_row_is_not_ahead_of_the_first(self):
        self.assert_wrong(read_laying, ["><"], (0, 0))
        self.assert_wrong(read_laying, [">.<"], (0, 0))
        self.assert_wrong(read_laying, ["v", "^"], (0, 0))
        self.assert_wrong(read_laying, ["v", ".", "^"], (0, 0))
        self.assert_wrong(read_laying, ["v"] + ["."] * 62 + ["^"], (0, 0))

    def test_64_cells_and_65(self):
        self.assertEqual(read_laying(["<>" * 4] * 8), FULL)
        self.assertEqual(read_laying([PAIRS]), level_rows(block(1, 64)))
        self.assertEqual(read_laying(["^", "v"] * 32), [upright(at, 0) for at in range(0, 64, 2)])
        self.assert_wrong(read_laying, [PAIRS, "<>"], (1, 0))
        self.assert_wrong(read_laying, [PAIRS, "..^", "..v"], (1, 2))
        self.assert_wrong(read_laying, ["<>" * 4] * 9, (8, 0))

    def test_cells_are_counted_sign_by_sign(self):
        self.assert_wrong(read_laying, ["<>" * 31 + "^^", "." * 62 + "vv"], (1, 62))
        self.assert_wrong(read_laying, ["<>" * 31 + "^.", "<>" + "." * 60 + "v"], (1, 1))
        self.assert_wrong(read_laying, ["^" * 64, "v" * 64], (1, 0))
        self.assert_wrong(read_laying, ["^" * 40, "v" * 40], (1, 24))
        self.assert_wrong(read_laying, ["<>" * 30 + "^^^^", "." * 60 + "vvvv", "<>"], (1, 60))

    def test_the_sixty_fifth_that_is_wrong_in_two_ways(self):
        for last in ["<", "v", "^", "<.", "<<>"]:
            self.assert_wrong(read_laying, [PAIRS, last], (1, 0))
            self.assert_wrong(read_laying, [PAIRS, ".." + last], (1, 2))
        self.assert_wrong(read_laying, [PAIRS, "x<>"], (1, 0))

    def test_64_signs_and_65(self):
        self.assertEqual(read_laying(["." * 62 + "<>"]), [level(0, 62)])
        self.assert_wrong(read_laying, ["." * 65], (0, 64))
        self.assert_wrong(read_laying, ["", DOTS + "x"], (1, 64))
        self.assert_wrong(read_laying, [DOTS + "<>"], (0, 64))
        self.assert_wrong(read_laying, [DOTS + "."] * 3, (0, 64))
        self.assert_wrong(read_laying, [PAIRS + "<>"], (0, 64))

    def test_64_rows_and_65(self):
        self.assertEqual(read_laying([""] * 62 + ["^", "v"]), [upright(62, 0)])
        for last in ["", ".", "<>", "v", "x", "." * 65]:
            with self.subTest(last=last):
                self.assert_wrong(read_laying, [""] * 64 + [last], (64, 0))
        self.assert_wrong(read_laying, ["^", "v"] * 33, (64, 0))

    def test_another_half_beyond_the_bounds_does_stand_there(self):
        self.assert_wrong(read_laying, ["." * 63 + "<>"], (0, 64))
        self.assert_wrong(read_laying, ["." * 63 + "<>....x"], (0, 64))
        self.assert_wrong(read_laying, ["..", "." * 63 + "<>"], (1, 64))
        self.assert_wrong(read_laying, [""] * 63 + ["^", "v"], (64, 0))
        self.assert_wrong(read_laying, [""] * 63 + ["..^", "..v"], (64, 0))
        self.assert_wrong(read_laying, [""] * 63 + ["^^<>", "vvx"], (64, 0))

    def test_another_half_beyond_the_bounds_that_is_not_there(self):
        self.assert_wrong(read_laying, ["." * 63 + "<"], (0, 63))
        self.assert_wrong(read_laying, ["." * 63 + "<."], (0, 63))
        self.assert_wrong(read_laying, ["." * 63 + "<<>"], (0, 63))
        self.assert_wrong(read_laying, ["." * 63 + ">"], (0, 63))
        self.assert_wrong(read_laying, [""] * 63 + ["^"], (63, 0))
        self.assert_wrong(read_laying, [""] * 63 + ["^", ""], (63, 0))
        self.assert_wrong(read_laying, [""] * 63 + [".^", "v"], (63, 1))
        self.assert_wrong(read_laying, [""] * 63 + ["^^", "v."], (63, 1))

    def test_the_first_of_two_kinds(self):
        for rows, place in [
            (["x<"], (0, 0)), (["<x"], (0, 0)), (["..<.", "x"], (0, 2)), (["..x.", "<"], (0, 2)),
            (["<>", ".>x"], (1, 1)), (["^x", "v<"], (0, 1)),
            (["." * 65, "<"], (0, 64)), (["<" + DOTS], (0, 0)), (["." * 65, "x"], (0, 64)), (["x" + DOTS], (0, 0)),
            (["<", "." * 65], (0, 0)), (["<>"] + ["." * 65] + ["x"], (1, 64)), (["." * 65] + [""] * 64, (0, 64)),
            ([""] * 63 + ["x", ""], (63, 0)), ([""] * 63 + ["<", ""], (63, 0)), ([""] * 63 + ["." * 65, ""], (63, 64)),
            ([PAIRS, ".<>x"], (1, 1)), ([PAIRS, ".x<>"], (1, 1)), ([PAIRS, "." * 65, "<>"], (1, 64)),
            ([PAIRS, "<>" + "." * 63], (1, 0)), ([PAIRS[:-1] + "x", "<>" * 2], (0, 62)),
            (["x" + PAIRS[1:], "<>"], (0, 0)), ([PAIRS] + [""] * 62 + [".<>", ""], (63, 1)),
            ([PAIRS] + [""] * 63 + ["<>"], (64, 0)),
        ]:
            with self.subTest(rows=rows):
                self.assert_wrong(read_laying, rows, place)

    def test_all_of_two_rows_of_three_signs(self):
        for signs in itertools.product("<>^v.x", repeat=6):
            rows = ["".join(signs[:3]), "".join(signs[3:])]
            told = self.assert_read_or_wrong(read_laying, rows, "<>^v.")
            if told is not None:
                wanted = [level(at, to) for at in range(2) for to in range(3) if rows[at][to] == "<"]
                wanted += [upright(at, to) for at in range(2) for to in range(3) if rows[at][to] == "^"]
                self.assertEqual(told, sorted(wanted))

    def test_all_of_three_short_rows(self):
        texts = ["", "<", "^", "v", "x", "<>", "^^", "vv", "v^", "^v", ".v", "^.", "<>>"]
        for rows in itertools.product(texts, repeat=3):
            self.assert_read_or_wrong(read_laying, list(rows), "<>^v.")

    def test_many_large_ones(self):
        chance = random.Random(12)
        for _ in range(1000):
            wide, high = chance.choice([8, 20, 64, 66]), chance.choice([8, 20, 64, 66])
            signs = {}
            for _ in range(chance.choice([3, 31, 32, 33, 60])):
                row, column = chance.randrange(high), chance.randrange(wide)
                other, halves = chance.choice([((row, column + 1), "<>"), ((row + 1, column), "^v")])
                if (row, column) not in signs and other not in signs:
                    signs[row, column], signs[other] = halves
            for _ in range(chance.choice([0, 0, 0, 1, 2])):
                signs[chance.randrange(high), chance.randrange(wide)] = chance.choice("<>^vx.")
            rows = ["".join(signs.get((at, to), ".") for to in range(wide + 1)).rstrip(".") for at in range(high)]
            self.assert_read_or_wrong(read_laying, rows, "<>^v.")


class TestOwnLists(unittest.TestCase):
    def test_what_is_handed_in_stays(self):
        rows = ["##", ".", ""]
        read_floor(rows)
        self.assertEqual(rows, ["##", ".", ""])
        rows = ["^<>", "v"]
        read_laying(rows)
        self.assertEqual(rows, ["^<>", "v"])

    def test_a_changed_answer_changes_no_later_one(self):
        for read, rows in [
            (read_floor, ["##", ".#"]), (read_laying, ["^<>", "v"]), (read_floor, []), (read_laying, []),
        ]:
            with self.subTest(read=read.__name__, rows=rows):
                handed = list(rows)
                first = read(handed)
                kept = list(first)
                self.assertIsNot(first, handed)
                first.reverse()
                first.append(((9, 9), (9, 10)))
                self.assertEqual(handed, rows)
                self.assertEqual(read(handed), kept)
                self.assertEqual(read(list(rows)), kept)

    def test_a_list_changed_behind_a_call_changes_no_answer(self):
        rows = ["#", "#"]
        first = read_floor(rows)
        rows.pop()
        self.assertEqual(first, [(0, 0), (1, 0)])
        self.assertEqual(read_floor(rows), [(0, 0)])

    def test_what_was_refused_changes_no_later_answer(self):
        for rows in [["<"], ["x"], [DOTS + "."], [PAIRS, "<>"]]:
            with self.assertRaises(ValueError):
                read_laying(rows)
            self.assertEqual(read_laying([PAIRS]), level_rows(block(1, 64)))


if __name__ == "__main__":
    unittest.main()
