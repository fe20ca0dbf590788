"""Points 47 and 48: storms, and which writes of a turn are made."""

import random
import unittest

from drawing import SIGNS, drawn_storm
from helpers import check_plain, check_raises, check_unchanged
from stillinstep.errors import BadStorm
from stillinstep.storms import calm_storm, check_storm, finishers, made_writes, storm_of


class Checking(unittest.TestCase):
    def refuse(self, tick, storm, workers):
        for kind in (tuple, list):
            check_raises(self, BadStorm, {"tick": tick}, check_storm, kind(storm), workers)

    def test_good_storms(self):
        for storm, workers in (((), 1), ((), 16), (("+",), 1), (("-", "0", "9"), 1), ((SIGNS,), 12),
                               (("+-0", "---", "999"), 3), (("+" * 16,) * 5, 16)):
            for kind in (tuple, list):
                self.assertIsNone(check_unchanged(self, check_storm, kind(storm), workers))

    def test_lengths(self):
        for word in ("", "+", "+-+", "+-+-"):
            self.refuse(0, [word], 2)
            self.refuse(2, ["++", "--", word], 2)
            self.refuse(1, ["++", word, "--"], 2)

    def test_other_signs(self):
        for sign in (" ", "a", "x", "*", "/", ":", ",", "=", "_", "~", "!", "\n", "A", ".", "(", "\u0660", "\u00b2"):
            self.refuse(0, ["+" + sign], 2)
            self.refuse(0, [sign + "+"], 2)
            self.refuse(3, ["+-", "00", "99", sign + sign], 2)

    def test_several_bad_words(self):
        self.refuse(1, ["++", "+", "+x", "+++"], 2)
        self.refuse(1, ["++", "+x", "+"], 2)
        self.refuse(0, ["", "+x"], 2)

    def test_a_word_that_fits_another_crew(self):
        self.assertIsNone(check_storm(["+-"], 2))
        self.refuse(0, ["+-"], 1)
        self.refuse(0, ["+-"], 3)

    def test_by_name(self):
        self.assertIsNone(check_storm(storm=["+-"], workers=2))


class Making(unittest.TestCase):
    def test_finishers(self):
        for word, wanted in (("", ()), ("+", (0,)), ("-", ()), ("5", ()), ("+-+", (0, 2)), ("0+9", (1,)),
                             ("-0123456789", ()), ("+" * 16, tuple(range(16)))):
            self.assertEqual(finishers(word), wanted)
            check_plain(self, finishers(word))
        self.assertEqual(finishers(word="-+"), (1,))

    def test_storm_of(self):
        for kind in (tuple, list):
            rows = kind([kind(row) for row in ((2, 0), (), (1,), (0, 1, 2))])
            found = check_unchanged(self, storm_of, rows, 3)
            self.assertEqual(found, ("+-+", "---", "-+-", "+++"))
            check_plain(self, found)
            self.assertEqual(storm_of(kind(), 3), ())
        self.assertEqual(storm_of([[], []], 1), ("-", "-"))
        self.assertEqual(storm_of([[15], [0]], 16), ("-" * 15 + "+", "+" + "-" * 15))
        self.assertEqual(storm_of(rows=[[1]], workers=2), ("-+",))

    def test_storm_of_and_finishers(self):
        chance = random.Random(47)
        for _ in range(100):
            workers = chance.randint(1, 16)
            rows = [chance.sample(range(workers), chance.randint(0, workers)) for _ in range(5)]
            storm = storm_of(rows, workers)
            self.assertIsNone(check_storm(storm, workers))
            self.assertEqual([finishers(word) for word in storm], [tuple(sorted(row)) for row in rows])
            other = drawn_storm(chance, workers, 5)
            self.assertEqual([finishers(word) for word in other],
                             [tuple(at for at in range(workers) if word[at] == "+") for word in other])

    def test_calm_storm(self):
        self.assertEqual(calm_storm(3, 2), ("+++", "+++"))
        self.assertEqual(calm_storm(1, 1), ("+",))
        self.assertEqual(calm_storm(16, 0), ())
        self.assertEqual(calm_storm(2, 1000), ("++",) * 1000)
        self.assertEqual(calm_storm(workers=2, ticks=1), ("++",))
        check_plain(self, calm_storm(3, 2))


class Made(unittest.TestCase):
    def check(self, writes, sign, wanted):
        for kind in (tuple, list):
            found = check_unchanged(self, made_writes, kind(writes), sign)
            self.assertEqual(found, tuple(wanted), (writes, sign))
            check_plain(self, found)

    def test_each_sign_over_rows_of_each_length(self):
        for many in (0, 1, 2, 3, 8):
            writes = [("look", number, 5 * number - 1) for number in range(many)]
            self.check(writes, "+", writes)
            self.check(writes, "-", [])
            for digit in range(10):
                self.check(writes, str(digit), writes[:min(digit, max(many - 1, 0))])

    def test_the_last_one_is_never_made(self):
        writes = [("node", 0, 4), ("taken", 0, 1)]
        self.check(writes, "0", [])
        self.check(writes, "1", writes[:1])
        self.check(writes, "2", writes[:1])
        self.check(writes, "9", writes[:1])
        self.check(writes[:1], "1", [])
        self.check(writes[:1], "9", [])
        self.check([], "9", [])

    def test_by_name(self):
        self.assertEqual(made_writes(writes=[("mark", 1, 1)], sign="+"), (("mark", 1, 1),))


if __name__ == "__main__":
    unittest.main()
