"""Points 2 and 21: the memory of a program."""

import unittest

from helpers import FakeProgram, check_plain, check_raises, check_unchanged, program
from stillinstep.clipping import LIMIT
from stillinstep.errors import NoArray, TooLong
from stillinstep.memory import array_in, cells_of, data_of, offset_of

MADE = FakeProgram(2, (("b", 3), ("a", 1), ("long_name_12", 2)))
READ = program("lanes 2", "array b 3", "array a 1", "array long_name_12 2", "step first a[0] := 1")


class Memory(unittest.TestCase):
    def test_cells_of(self):
        for made in (MADE, READ):
            self.assertEqual(cells_of(made), 6)
        self.assertEqual(cells_of(FakeProgram(1, (("x", 64),))), 64)

    def test_offset_of(self):
        for made in (MADE, READ):
            self.assertEqual([offset_of(made, name) for name in ("b", "a", "long_name_12")], [0, 3, 4])

    def test_array_in(self):
        data = (1, -2, 3, 4, 5, LIMIT)
        for made in (MADE, READ):
            for passed in (data, list(data)):
                found = [check_unchanged(self, array_in, made, passed, name) for name in ("b", "a", "long_name_12")]
                self.assertEqual(found, [(1, -2, 3), (4,), (5, LIMIT)])
                check_plain(self, tuple(found))

    def test_names_that_are_no_arrays(self):
        for name in ("c", "lanes", "me", "B", "", "a ", "bb"):
            check_raises(self, NoArray, {"name": name}, offset_of, MADE, name)
            check_raises(self, NoArray, {"name": name}, array_in, MADE, (0,) * 6, name)
            check_raises(self, NoArray, {"name": name}, data_of, MADE, {name: (1,)})

    def test_data_of(self):
        self.assertEqual(data_of(MADE, {}), (0,) * 6)
        self.assertEqual(data_of(MADE, {"a": [7]}), (0, 0, 0, 7, 0, 0))
        self.assertEqual(data_of(MADE, {"long_name_12": (5, -6), "b": (1, 2, 3)}), (1, 2, 3, 0, 5, -6))

    def test_data_of_shorter_sequences(self):
        self.assertEqual(data_of(READ, {"b": [1, 2], "long_name_12": (9,)}), (1, 2, 0, 0, 9, 0))
        self.assertEqual(data_of(READ, {"b": [], "a": ()}), (0,) * 6)

    def test_data_of_longer_sequences(self):
        for name, size in MADE.arrays:
            data_of(MADE, {name: [1] * size})
            for many in (size + 1, size + 2, 100):
                for numbers in ([1] * many, (1,) * many):
                    check_raises(self, TooLong, {"name": name}, data_of, MADE, {name: numbers})

    def test_the_first_bad_key_decides(self):
        long, short = [0] * 4, [0]
        check_raises(self, TooLong, {"name": "b"}, data_of, MADE, {"b": long, "x": short, "a": long})
        check_raises(self, NoArray, {"name": "x"}, data_of, MADE, {"x": short, "b": long, "a": long})
        check_raises(self, TooLong, {"name": "a"}, data_of, MADE, {"b": short, "a": long, "b2": short})
        check_raises(self, NoArray, {"name": "y"}, data_of, MADE, {"a": short, "y": long, "b": long, "x": short})
        check_raises(self, TooLong, {"name": "a"}, data_of, MADE, {"a": long, "b": long})
        check_raises(self, TooLong, {"name": "b"}, data_of, MADE, {"b": long, "a": long})

    def test_what_is_passed_and_what_is_returned(self):
        for numbers in ([1, 2], (1, 2)):
            data = check_unchanged(self, data_of, MADE, {"b": numbers, "a": [LIMIT]})
            check_plain(self, data)
            self.assertEqual(data, (1, 2, 0, LIMIT, 0, 0))

    def test_by_name(self):
        self.assertEqual(cells_of(program=MADE), 6)
        self.assertEqual(offset_of(program=MADE, name="a"), 3)
        self.assertEqual(array_in(program=MADE, data=[1, 2, 3, 4, 5, 6], name="a"), (4,))
        self.assertEqual(data_of(program=MADE, arrays={}), (0,) * 6)


if __name__ == "__main__":
    unittest.main()
