import unittest

from floortwos import errors
from helpers import NAMES


def bare(name):
    """An error of that class, however the class is called."""
    kind = getattr(errors, name)
    return kind.__new__(kind)


class TestErrors(unittest.TestCase):
    def test_tile_error_stands_right_under_value_error(self):
        self.assertEqual(errors.TileError.__bases__, (ValueError,))

    def test_each_is_caught_as_tile_error_and_as_value_error(self):
        for name in NAMES:
            for caught in (errors.TileError, ValueError):
                with self.subTest(name=name, caught=caught):
                    with self.assertRaises(caught):
                        raise bare(name)

    def test_each_is_caught_as_none_of_the_others(self):
        for name in NAMES:
            for other in NAMES:
                with self.subTest(name=name, other=other):
                    self.assertEqual(isinstance(bare(name), getattr(errors, other)), name == other)

    def test_tile_error_is_none_of_them(self):
        for name in NAMES:
            with self.subTest(name=name):
                self.assertNotIsInstance(bare("TileError"), getattr(errors, name))

    def test_no_text_tells_row_and_column(self):
        with self.assertRaises(errors.NoText) as caught:
            raise errors.NoText(3, 64)
        self.assertEqual((caught.exception.row, caught.exception.column), (3, 64))

    def test_no_texts_keep_their_own_fields(self):
        one = errors.NoText(0, 5)
        other = errors.NoText(7, 0)
        self.assertEqual((one.row, one.column, other.row, other.column), (0, 5, 7, 0))


if __name__ == "__main__":
    unittest.main()
