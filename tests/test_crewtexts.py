"""Points 90 and 91: the texts of crews and of storms."""

import random
import re
import unittest

from changing import changed_texts
from drawing import SIGNS, drawn_crew, drawn_storm
from helpers import check_plain, check_raises, check_unchanged
from stillinstep.crews import Crew, bits_crew
from stillinstep.crewtexts import read_crew, read_storm, write_crew, write_storm
from stillinstep.errors import BadText


def bad_crew_line(text):
    """The first line of a text that is not as it must be, or None."""
    lines = text.split("\n")
    if not re.fullmatch("height [1-4]", lines[0]):
        return 1
    leaves = 2 ** int(lines[0][-1])
    for number, line in enumerate(lines[1:], start=2):
        parts = re.fullmatch(f"(0|[1-9][0-9]?) ([01]{{{leaves - 1}}})", line)
        if number == 18 or not parts or int(parts[1]) >= leaves:
            return number
    return 2 if len(lines) == 1 else None


class CrewTexts(unittest.TestCase):
    def check(self, crew, text):
        self.assertEqual(check_unchanged(self, write_crew, crew), text)
        again = check_unchanged(self, read_crew, text)
        self.assertIs(type(again), Crew)
        self.assertEqual(again, crew)
        check_plain(self, (again.height, again.seats, again.leanings))
        self.assertEqual(write_crew(again), text)

    def refuse(self, line, text):
        self.assertEqual(bad_crew_line(text), line, text)
        check_raises(self, BadText, {"line": line}, read_crew, text)

    def test_worked_by_hand(self):
        self.check(Crew(1, [0], [[1]]), "height 1\n0 1")
        self.check(bits_crew(2, bits=1), "height 2\n0 000\n2 100")
        self.check(Crew(3, [7, 0, 7], [[0] * 7, [1] * 7, [0, 1] * 3 + [1]]), "height 3\n7 0000000\n0 1111111\n7 0101011")
        self.check(Crew(4, [15, 10], [[0] * 15, [1] + [0] * 14]), "height 4\n15 000000000000000\n10 100000000000000")

    def test_drawn_crews(self):
        chance = random.Random(90)
        for _ in range(60):
            crew = drawn_crew(chance)
            self.check(crew, write_crew(crew))
        self.check(bits_crew(4, bits=4), write_crew(bits_crew(4, bits=4)))

    def test_height_lines(self):
        for line in ("", " ", "height", "height ", "height 0", "height 5", "height 10", "height 01", "height -1", "height +1",
                     "height  1", " height 1", "height 1 ", "Height 1", "height1", "height 1 0", "height x", "heights 1",
                     "height\t1", "height \u0661", "0 1"):
            self.refuse(1, line)
            self.refuse(1, line + "\n0 1")

    def test_only_a_height(self):
        for height in range(1, 5):
            self.refuse(2, f"height {height}")
            self.refuse(2, f"height {height}\n")

    def test_worker_lines(self):
        for line in ("", " ", "0", "0 ", " 0", "0 2", "0 11", "2 0", "-1 0", "00 0", "01 0", "0  0", " 0 0", "0 0 ", "0 0 0",
                     "+0 0", "x 0", "0 x", "0\t0", "0 \u0660", "\u0660 0", "height 1", "10 0", "0 -", "1000000000000000 0"):
            self.refuse(2, f"height 1\n{line}")
            self.refuse(3, f"height 1\n1 1\n{line}")
            self.refuse(3, f"height 1\n1 1\n{line}\n0 0\n\n")
            self.refuse(17, "height 1" + "\n1 1" * 15 + "\n" + line)
        for height in range(1, 5):
            leaves = 2 ** height
            for leanings in ("", "0" * (leaves - 2), "0" * leaves, "0" * (leaves - 2) + "2"):
                self.refuse(2, f"height {height}\n0 {leanings}")
            for seat in (leaves, leaves + 1, 16, 100, -1):
                self.refuse(2, f"height {height}\n{seat} " + "0" * (leaves - 1))

    def test_a_line_18(self):
        text = "height 1" + "\n1 0" * 16
        self.check(Crew(1, [1] * 16, [[0]] * 16), text)
        for line in ("1 0", "", " ", "x", "0 1\n0 1"):
            self.refuse(18, f"{text}\n{line}")

    def test_a_newline_at_the_end(self):
        self.refuse(3, "height 1\n0 1\n")
        self.refuse(1, "\nheight 1\n0 1")

    def test_changed_texts(self):
        answers = set()
        for text in ("height 2\n0 000\n3 101", "height 1\n1 0", "height 4\n12 101010101010101\n0 111111111111111",
                     "height 1" + "\n1 0" * 16):
            for changed in changed_texts(text, " \n01234-x"):
                line = bad_crew_line(changed)
                answers.add(line)
                if line is None:
                    self.assertEqual(write_crew(read_crew(changed)), changed)
                else:
                    check_raises(self, BadText, {"line": line}, read_crew, changed)
        self.assertLessEqual({None, *range(1, 19)}, answers)

    def test_by_name(self):
        crew = bits_crew(1, bits=1)
        self.assertEqual(read_crew(text=write_crew(crew=crew)), crew)


class StormTexts(unittest.TestCase):
    def check(self, storm, workers, text):
        for kind in (tuple, list):
            self.assertEqual(check_unchanged(self, write_storm, kind(storm)), text)
        again = check_unchanged(self, read_storm, text, workers=workers)
        self.assertEqual(again, tuple(storm))
        check_plain(self, again)
        self.assertEqual(write_storm(again), text)

    def refuse(self, line, text, workers):
        check_raises(self, BadText, {"line": line}, read_storm, text, workers=workers)

    def test_worked_by_hand(self):
        self.check((), 3, "")
        self.check(("+",), 1, "+")
        self.check(("+-", "09", "--"), 2, "+-\n09\n--")
        self.check((SIGNS,), 12, SIGNS)

    def test_the_empty_text(self):
        for workers in range(1, 17):
            self.check((), workers, "")

    def test_drawn_storms(self):
        chance = random.Random(91)
        for _ in range(60):
            workers = chance.randint(1, 16)
            storm = drawn_storm(chance, workers, chance.randint(0, 20))
            self.check(storm, workers, "\n".join(storm))

    def test_bad_lines(self):
        for line in ("", " ", "+", "+-+", "+x", "+ ", " +", "+\t", "+\u0660", "+*", "+/", "+:"):
            self.refuse(2, f"++\n{line}", 2)
            self.refuse(2, f"++\n{line}\n--", 2)
            self.refuse(5, "00\n" * 4 + line, 2)
            if line != "":
                self.refuse(1, line, 2)
                self.refuse(1, f"{line}\n", 2)
        self.refuse(1, "\n", 2)
        self.refuse(1, "\n++", 2)
        self.refuse(2, "++\n", 2)
        self.refuse(1, "++", 1)
        self.refuse(1, "++", 3)

    def test_changed_texts(self):
        for text, workers in (("+-\n09\n--", 2), ("+\n-\n5", 1), ("+++++++++++++++-", 16)):
            for changed in changed_texts(text, " \n+-09x"):
                lines = changed.split("\n") if changed else []
                bad = [number for number, line in enumerate(lines, start=1)
                       if not re.fullmatch(f"[-+0-9]{{{workers}}}", line)]
                if bad:
                    self.refuse(bad[0], changed, workers)
                else:
                    self.check(lines, workers, changed)

    def test_by_name(self):
        self.assertEqual(read_storm(text=write_storm(storm=["+-"]), workers=2), ("+-",))
        with self.assertRaises(TypeError):
            read_storm("+-", 2)


if __name__ == "__main__":
    unittest.main()
