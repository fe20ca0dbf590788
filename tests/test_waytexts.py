"""Point 89: the texts of ways."""

import random
import re
import unittest

from changing import changed_texts
from drawing import drawn_way
from helpers import check_plain, check_raises, check_unchanged, ex
from stillinstep.errors import BadExpression, BadLine, OutOfBounds, UnknownName
from stillinstep.reading import read_expression
from stillinstep.runners import even_way
from stillinstep.waytexts import read_way, write_way
from stillinstep.ways import Way

DEEP = "1" + " + 1" * 11
OPEN = "(" * 12 + "me" + ")" * 12


def parts_of(line):
    """The kind of a line and its texts, or None if it has none of the forms."""
    notes = re.fullmatch(" *notes +([0-9]+) *", line)
    if notes:
        try:
            return "notes", [read_expression(notes[1])]
        except BadExpression:
            return None
    other = re.fullmatch("(?s) *(note|place)(?![a-z0-9_])(.*)", line)
    if not other:
        return None
    texts = other[2].split(":=")
    if len(texts) != (2 if other[1] == "note" else 1):
        return None
    try:
        return other[1], [(read_expression(text), text) for text in texts]
    except BadExpression:
        return None


def unknown_word(texts, arrays):
    """The first word, from left to right, that may not stand there."""
    for text in texts:
        for word, sign in re.findall(r"(?<![a-z0-9_])([a-z][a-z0-9_]*) *(\[?)", text):
            if sign and word not in arrays:
                return word
            if not sign and word not in ("me", "workers", "places", "left", "div", "mod", "min", "max", "pick", "nth"):
                return word
    return None


def reference(text):
    """The way, or an error and its fields: the lines of the text looked at one by one."""
    notes, note, place = 0, None, None
    lines = text.split("\n")
    for number, line in enumerate(lines, start=1):
        if line.strip(" ") == "":
            continue
        parts = parts_of(line)
        if parts is None or place is not None:
            return BadLine, {"line": number}
        if parts[0] == "notes":
            if notes:
                return BadLine, {"line": number}
            if not 1 <= parts[1][0][1] <= 4:
                return OutOfBounds, {"line": number}
            notes = parts[1][0][1]
            continue
        if parts[0] == "note" and (notes == 0 or note is not None):
            return BadLine, {"line": number}
        word = unknown_word([part for _, part in parts[1]], ("place", "note") if notes else ("place",))
        if word is not None:
            return UnknownName, {"line": number, "name": word}
        if parts[0] == "note":
            note = tuple(expression for expression, _ in parts[1])
        else:
            place = parts[1][0][0]
    if place is None:
        return BadLine, {"line": len(lines) + 1}
    return Way(place, notes=notes, note=note), None


class WayTexts(unittest.TestCase):
    def read(self, text):
        way = check_unchanged(self, read_way, text)
        self.assertIs(type(way), Way)
        check_plain(self, (way.place, way.notes, way.note))
        return way

    def check(self, way, text):
        self.assertEqual(check_unchanged(self, write_way, way), text)
        self.assertEqual(self.read(text), way)
        self.assertEqual(write_way(self.read(text)), text)

    def refuse(self, error, fields, *lines):
        text = "\n".join(lines)
        self.assertEqual(reference(text), (error, fields), text)
        check_raises(self, error, fields, read_way, text)

    def bad(self, line, *lines):
        self.refuse(BadLine, {"line": line}, *lines)

    def unknown(self, line, name, *lines):
        self.refuse(UnknownName, {"line": line, "name": name}, *lines)


class Writing(WayTexts):
    def test_worked_by_hand(self):
        self.check(even_way(), "place nth(me mod left)")
        self.check(Way(ex("me+1"), notes=3), "notes 3\nplace me + 1")
        self.check(Way(ex("note[(0)]"), notes=4, note=[ex("me mod 4"), ex("(left*2)-1")]),
                   "notes 4\nnote me mod 4 := left * 2 - 1\nplace note[0]")
        self.check(Way(ex("pick(place[me], workers, places)")), "place pick(place[me], workers, places)")

    def test_a_note_without_note_cells(self):
        way = Way(ex("me"), note=(ex("0"), ex("1")))
        self.assertEqual(write_way(way), "note 0 := 1\nplace me")
        check_raises(self, BadLine, {"line": 1}, read_way, write_way(way))

    def test_expressions_at_their_bounds(self):
        self.check(Way(ex(DEEP), notes=1, note=(ex(DEEP), ex(DEEP))), f"notes 1\nnote {DEEP} := {DEEP}\nplace {DEEP}")
        self.assertEqual(self.read(f"notes 1\nnote {OPEN}:={OPEN}\nplace {OPEN}"),
                         Way(ex("me"), notes=1, note=(ex("me"), ex("me"))))
        self.check(Way(("number", 10 ** 12)), "place 1000000000000")

    def test_drawn_ways(self):
        chance = random.Random(89)
        for _ in range(300):
            way = drawn_way(chance)
            self.check(way, write_way(way))

    def test_by_name(self):
        self.assertEqual(read_way(text=write_way(way=even_way())), even_way())


class Reading(WayTexts):
    def test_spaces_and_ignored_lines(self):
        wanted = Way(ex("nth(me)"), notes=2, note=(ex("0"), ex("me")))
        for text in ("\n \nnotes 2\n\nnote 0:=me\n   \nplace nth(me)\n\n", "  notes   2  \n note  0  :=  me \nplace nth( me )",
                     "notes 2\nnote(0):=(me)\nplace(nth(me))"):
            self.assertEqual(self.read(text), wanted)

    def test_numbers_of_note_cells(self):
        for many in range(1, 5):
            self.assertEqual(self.read(f"notes {many}\nplace 0"), Way(ex("0"), notes=many))
        for many in (0, 5, 6, 10 ** 12):
            self.refuse(OutOfBounds, {"line": 1}, f"notes {many}", "place 0")
            self.refuse(OutOfBounds, {"line": 3}, "", " ", f"notes {many}")

    def test_lines_of_another_form(self):
        for line in ("place", "notes", "note", "places 3", "place me me", "place a[", "notes me", "notes 1 1", "notes 01",
                     "notes 1000000000001", "notes -1", "lanes 2", "end", "me", "1", "[", "place 1 < 2 < 3", "place %",
                     "place me := 1", "Place 0", "place nth()", "place nth(1, 2)", "place min(1)", "place when", "place div",
                     "place me;", "place 1me", "placeme", "notes2", "note", "note 0 := 1", "place " + "(" * 13 + "me" + ")" * 13,
                     "place 1 + " + DEEP, "place abcdefghijklm", "\tplace 0", "place \u0660"):
            self.bad(1, line)
            self.bad(3, "", "  ", line, "place 0")
        for line in ("note 0", "note := 1", "note 0 :=", "note 0 := 1 := 2", "note 0 = 1", "note [0] := 1", "note[0] := 1",
                     "note 0 := 1 ; 1 := 2", "note 0 := 1 when 1", "note 0 := 1 <", "notes 3", "note 0 := me me"):
            self.bad(2, "notes 1", line, "place 0")

    def test_lines_that_may_not_stand_there(self):
        self.bad(2, "notes 2", "notes 2", "place 0")
        self.bad(1, "note 0 := 1", "notes 1", "place 0")
        self.bad(3, "notes 1", "note 0 := 1", "note 0 := 1", "place 0")
        self.bad(3, "notes 1", "note 0 := 1", "notes 1", "place 0")
        self.bad(2, "place 0", "place 0")
        self.bad(2, "place 0", "notes 1")
        self.bad(3, "notes 1", "place 0", "note 0 := 1")
        self.bad(4, "place 0", "", " ", "x")

    def test_no_place_line(self):
        self.bad(2, "")
        self.bad(2, "notes 1")
        self.bad(3, "notes 1", "note 0 := 1")
        self.bad(4, "", "notes 1", " ")
        self.bad(3, "", "")

    def test_words_that_are_not_known(self):
        for word in ("lanes", "place", "note", "step", "first", "x", "worker", "abcdefghijkl"):
            self.unknown(1, word, f"place {word}")
            self.unknown(1, word, f"place me + {word} + other")
        for word in ("a", "me", "left", "note", "lanes", "places"):
            self.unknown(1, word, f"place {word}[0]")
            self.unknown(2, word, "", f"place min(me, {word}[other])")
        self.unknown(1, "other", "place place[other + note[0]]")
        self.unknown(2, "a", "notes 1", "note a := b", "place c")
        self.unknown(2, "b", "notes 1", "note 0 := b", "place c")
        self.unknown(2, "place", "notes 1", "note place[note[place]] := b", "place c")
        self.unknown(3, "c", "notes 1", "note note[0] := place[0]", "place c")
        self.unknown(2, "note", "notes 1", "place note")

    def test_the_order_within_a_line(self):
        self.bad(1, "place other +")
        self.bad(2, "notes 1", "note other := 1 +", "place 0")
        self.bad(2, "place 0", "place other")
        self.bad(1, "note other := 1")
        self.bad(2, "notes 1", "notes 9")
        self.unknown(2, "x", "notes 2", "note x := 1", "notes 7")

    def test_changed_texts(self):
        answers = []
        for text in ("notes 2\nnote me := place[0] - note[1]\nplace nth(left)", "place pick(a[0], 1 <= me, 2)",
                     "\nnotes 4\n  place x"):
            for changed in changed_texts(text, " \n0a5_[])(+=:;<-m%"):
                wanted, fields = reference(changed)
                answers.append(Way if fields is None else wanted)
                if fields is None:
                    self.assertEqual(self.read(changed), wanted, changed)
                    self.assertEqual(read_way(write_way(wanted)), wanted)
                else:
                    check_raises(self, wanted, fields, read_way, changed)
        for kind in (Way, BadLine, UnknownName, OutOfBounds):
            self.assertIn(kind, answers)


if __name__ == "__main__":
    unittest.main()
