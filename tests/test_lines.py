"""Points 12 to 17: the lines of a program's text, and the errors in their order."""

import unittest

from helpers import check_plain, check_raises, ex, program
from stillinstep.clipping import LIMIT
from stillinstep.errors import BadLine, NeedsRule, OutOfBounds, TakenName, UnknownName
from stillinstep.lines import read_program
from stillinstep.programs import Program

RESERVED = ("lanes", "me", "array", "step", "for", "in", "do", "end", "while", "when", "first", "sum", "most", "least",
            "div", "mod", "min", "max", "pick", "nth")
SPECIAL = ("div", "mod", "min", "max", "pick", "nth", "when")
RULES = ("first", "sum", "most", "least")
HEAD = ("lanes 4", "array a 4", "array b 4")
STEP = "step a[me] := 1"


def assignment(array, place, value, when=None):
    """The assignment with the expressions of these texts."""
    return (array, ex(place), ex(value), None if when is None else ex(when))


class LineTests(unittest.TestCase):
    """Has the checks that the classes below use."""

    def raises(self, error, lines, *wanted):
        """Fails unless the text with these lines raises the error with these fields."""
        text = "\n".join(lines)
        with self.subTest(text[:200]):
            check_raises(self, error, dict(zip(("line", "name"), wanted)), read_program, text)

    def bad_here(self, *lines):
        """Fails unless the last one of the lines is bad, behind HEAD."""
        self.raises(BadLine, HEAD + lines, len(HEAD + lines))

    def unknown_here(self, name, *lines):
        """Fails unless the last one of the lines has an unknown word, behind HEAD."""
        self.raises(UnknownName, HEAD + lines, len(HEAD + lines), name)

    def body(self, *lines):
        """The body of the program with these lines behind HEAD."""
        made = program(*HEAD, *lines)
        check_plain(self, (made.lanes, made.arrays, made.body))
        return made.body


class Forms(LineTests):
    def test_a_small_program(self):
        made = program("lanes 2", "array a 2", "step a[me] := a[me] + a[1 - me]")
        self.assertIs(type(made), Program)
        self.assertEqual(made.lanes, 2)
        self.assertEqual(made.arrays, (("a", 2),))
        self.assertEqual(made.body, (("step", "", (assignment("a", "me", "a[me] + a[1 - me]"),)),))

    def test_steps(self):
        self.assertEqual(self.body("step a[me] := 1 when b[me] < 2"),
                         (("step", "", (assignment("a", "me", "1", "b[me] < 2"),)),))
        self.assertEqual(self.body("step a[me] := lanes ; b[3 - me] := a[0] when me"),
                         (("step", "", (assignment("a", "me", "lanes"), assignment("b", "3 - me", "a[0]", "me"))),))
        for rule in RULES:
            self.assertEqual(self.body(f"step {rule} a[0] := 1; a[1] := 2 ;a[0] := 3 when me"),
                             (("step", rule, (assignment("a", "0", "1"), assignment("a", "1", "2"),
                                              assignment("a", "0", "3", "me"))),))

    def test_blocks(self):
        step = ("step", "", (assignment("a", "me", "1"),))
        self.assertEqual(self.body("for i in 3 0 3", STEP, "end"), (("for", "i", (3, 0, 3), (step,)),))
        self.assertEqual(self.body("do", STEP, "while a[0] < lanes"), (("do", (step,), ex("a[0] < lanes")),))
        self.assertEqual(self.body("do", "for i in 1", STEP, STEP, "end", STEP, "while 0", STEP),
                         (("do", (("for", "i", (1,), (step, step)), step), ex("0")), step))
        self.assertEqual(self.body(f"for i in {LIMIT}", STEP, "end"), (("for", "i", (LIMIT,), (step,)),))

    def test_spaces_and_empty_lines(self):
        wanted = program(*HEAD, "for i in 1 2", "step sum a[me] := i ; b[0] := 1 when me", "end", "do", STEP,
                         "while a[0] <= 1")
        text = ("\n   \n  lanes    4  \n\n array  a   4\narray b 4\n \n for   i  in 1   2 \n"
                "step   sum  a [me]:=i;b[ 0 ]:=1 when me\n\n   end\ndo\n\n  step a[me]:=1\n       \nwhile a[0]<=1\n\n ")
        self.assertEqual(read_program(text), wanted)
        self.assertEqual(read_program("lanes 4\narray a 4\narray b 4\nstep a[ (me) ] :=(1)"), program(*HEAD, STEP))

    def test_arrays_called_by_words_of_rules(self):
        for rule in RULES:
            self.raises(UnknownName, (*HEAD, f"step {rule}[0] := 1"), 4, rule)
            self.raises(UnknownName, (*HEAD, f"step {rule} [0] := x"), 4, rule)
            self.raises(UnknownName, (*HEAD, f"step {rule} {rule}[0] := 1"), 4, rule)
            self.raises(UnknownName, (*HEAD, f"step a[me] := {rule}[0]"), 4, rule)
            self.bad_here(f"step {rule}")
            self.bad_here(f"step {rule} := 1")
            self.bad_here(f"step {rule} {rule} a[0] := 1")
            self.bad_here(f"step a[0] := 1 ; {rule} a[0] := 1")

    def test_lines_without_a_form(self):
        for line in ("lanes", "lanes x", "lanes 4 4", "lanes(4)", "lanes -1", "lanes4", "lanes 04",
                     f"lanes {LIMIT + 1}"):
            self.raises(BadLine, (line,), 1)
        for line in ("array", "array c", "array 4", "array c x", "array c 4 4", "array c, 4", "array c[4]", "array C 4",
                     "array 4 c", "array abcdefghijklm 4", f"array c {LIMIT + 1}", "array c -4", "array c 04",
                     "arrayc 4", "array c4"):
            self.bad_here(line)
        for line in ("step", "step a", "step a[me]", "step a[me] :=", "step a := 1", "step a[] := 1", "step a[me] = 1",
                     "step a[me] : = 1", "step a[me := 1", "step a me] := 1", "step [me] := 1", "step a[me] := 1 ;",
                     "step ; a[me] := 1", "step a[me] := 1 ; ; b[me] := 1", "step a[me] := 1 b[me] := 1",
                     "step a[me] := 1, b[me] := 1", "step a[me] := 1 when", "step a[me] := when 1",
                     "step a[me] when 1 := 1", "step a[me] := 1 when 1 when 1", "step a[me] := b[me] := 1",
                     "step a[me]] := 1", "step (a[me]) := 1", "step a[me] + b[me] := 1", "step a(me) := 1",
                     "step max a[me] := 1", "step 1 := 1", "step 1[me] := 1", "step a[0][1] := 1", "step := 1",
                     "step a[me] := 1 end", "step sum", "step sum ; a[me] := 1", "stepa[me] := 1", "step a[me) := 1",
                     "step a[me] ; := 1"):
            self.bad_here(line)
        for line in ("for", "for i", "for i in", "for in 1", "for i 1", "for i in x", "for i in 1, 2", "for i in 1 x",
                     "for i in -1", "for i in (1)", "for 1 in 1", "for i j in 1", f"for i in {LIMIT + 1}",
                     "for i in 01", "for i in 1 in 2", "for abcdefghijklm in 1", "for i = 1", "fori in 1",
                     "for i[0] in 1"):
            self.bad_here(line)
        for line in ("x", "1", "me", "a[me] := 1", "first", "when 1", "if 1", ";", ":=", "do do", "do 1", "end 1",
                     "end end", "Lanes 4", "STEP a[me] := 1", "# a", "min", "note", "place 1", "_", "sum a[0] := 1",
                     "in 1"):
            self.bad_here(line)

    def test_end_lines_without_a_form(self):
        for line in ("end 1", "end end", "end for", "end ;", "end i"):
            self.bad_here("for i in 1", STEP, line)

    def test_while_lines_without_a_form(self):
        for line in ("while", "while 1 1", "while a[0] := 1", "while 1 ; 2", "while 1 when 1", "while (1", "while1",
                     "while 1 < 2 < 3", "while min", "while a["):
            self.bad_here("do", STEP, line)
        self.unknown_here("do", "do", STEP, "while do")

    def test_lines_that_do_not_consist_of_tokens(self):
        for line in ("step a[me] := 1 # so", "step a[me] := 1.", "step a[me] := 1a", "step a[me] := 007",
                     "step a[me] := A", "step a[me] := abcdefghijklm", f"step a[me] := {LIMIT + 1}", "end.", "do!"):
            self.bad_here(line)

    def test_expressions_that_are_refused(self):
        deep = " + ".join(["1"] * 13)
        nested = "(" * 13 + "1" + ")" * 13
        for refused in ("1 +", "1 < 2 < 3", "min(1)", "nth(1, 2)", "when", "div", "min", "()", "", deep, nested,
                        "a[", "a[]", "- 1", "a b"):
            for line in (f"step a[{refused}] := 1", f"step a[me] := {refused}", f"step a[me] := 1 when {refused}",
                         f"step first a[me] := 1 ; b[{refused}] := 2", f"step a[me] := 1 ; b[me] := {refused}"):
                self.bad_here(line)
            self.bad_here("do", STEP, f"while {refused}")

    def test_each_expression_is_looked_at_by_itself(self):
        nested = "(" * 12 + "me" + ")" * 12
        self.assertEqual(self.body(f"step a[{nested}] := {nested} when {nested} ; b[{nested}] := {nested}"),
                         (("step", "", (assignment("a", "me", "me", "me"), assignment("b", "me", "me"))),))
        deep = " + ".join(["me"] * 12)
        self.body(f"step first a[{deep}] := {deep} when {deep}")
        self.bad_here(f"step first a[{deep} + 1] := 1")
        self.bad_here(f"step first a[({nested})] := 1")
        self.bad_here(f"step a[me] := a[{nested}]")

    def test_very_long_lines(self):
        many = 50000
        for line in ("1" * many, "lanes " + "1" * many, "a" * many, "step a[me] := " + "9" * many,
                     "step a[me] := " + "(" * many, "step a[me] := " + "1+" * many + "1", "step " + "a[" * many,
                     "for i in " + "1" * 5000, "array c " + "4" * 5000, "while " + "[" * many):
            self.bad_here(line)
        self.raises(BadLine, ("lanes " + "4" * 4500,), 1)
        self.raises(OutOfBounds, (*HEAD, "for i in" + " 1" * many), 4)
        self.raises(OutOfBounds, (*HEAD, "step first " + " ; ".join(["a[me] := 1"] * 2000)), 4)


class Places(LineTests):
    def test_the_first_line_is_a_lanes_line(self):
        for line in ("array a 4", STEP, "for i in 1", "end", "do", "while 1", "while me", "array min 4"):
            self.raises(BadLine, (line, *HEAD, STEP), 1)
            self.raises(BadLine, ("", "  ", line), 3)

    def test_no_second_lanes_line(self):
        for line in ("lanes 4", "lanes 0", "lanes 33"):
            self.raises(BadLine, ("lanes 4", line), 2)
            self.bad_here(line)
            self.bad_here(STEP, line)
            self.bad_here("do", line)

    def test_no_statement_before_the_first_array_line(self):
        for line in ("step a[me] := 1", "step first a[0] := x", "for i in 1", "do", "end", "while 1", "while me"):
            self.raises(BadLine, ("lanes 4", line), 2)

    def test_no_array_line_behind_the_first_statement_line(self):
        self.bad_here(STEP, "array c 4")
        self.bad_here("do", "array c 4")
        self.bad_here("for i in 1", "array a 4")
        self.bad_here("do", STEP, "while 0", "array c 99")

    def test_end_lines(self):
        self.bad_here("end")
        self.bad_here(STEP, "end")
        self.bad_here("for i in 1", "end")
        self.bad_here("do", "end")
        self.bad_here("do", STEP, "end")
        self.bad_here("for i in 1", "do", STEP, "end")
        self.bad_here("for i in 1", STEP, "do", "end")
        self.bad_here("for i in 1", STEP, "end", "end")
        self.bad_here("for i in 1", "for j in 1", STEP, "end", "end", "end")
        self.body("for i in 1", "do", STEP, "while 0", "end")
        self.body("for i in 1", "for j in 1", STEP, "end", "end")

    def test_while_lines(self):
        self.bad_here("while 0")
        self.bad_here(STEP, "while 0")
        self.bad_here("do", "while 0")
        self.bad_here("for i in 1", STEP, "while 0")
        self.bad_here("do", "for i in 1", STEP, "while 0")
        self.bad_here("do", STEP, "for i in 1", "while 0")
        self.bad_here("do", STEP, "while 0", "while 0")
        self.bad_here("do", STEP, "do", "while 0")
        self.body("do", "for i in 1", STEP, "end", "while 0")
        self.body("do", "do", STEP, "while 0", "while 0")

    def test_texts_that_lack_something(self):
        self.raises(BadLine, ("",), 2)
        self.raises(BadLine, ("   ",), 2)
        self.raises(BadLine, ("", "", " "), 4)
        self.raises(BadLine, ("lanes 4",), 2)
        self.raises(BadLine, ("", "lanes 4", ""), 4)
        self.raises(BadLine, HEAD, 4)
        self.raises(BadLine, (*HEAD, "", "  "), 6)

    def test_texts_with_a_block_open_at_the_end(self):
        self.raises(BadLine, (*HEAD, "do"), 5)
        self.raises(BadLine, (*HEAD, "do", STEP), 6)
        self.raises(BadLine, (*HEAD, "for i in 1", STEP, ""), 7)
        self.raises(BadLine, (*HEAD, STEP, "for i in 1"), 6)
        self.raises(BadLine, (*HEAD, "do", "for i in 1", STEP, "end"), 8)


class Bounds(LineTests):
    def test_lanes(self):
        for lanes in (1, 2, 31, 32):
            self.assertEqual(program(f"lanes {lanes}", "array a 64", STEP).lanes, lanes)
        for lanes in (0, 33, 100, LIMIT):
            self.raises(OutOfBounds, (f"lanes {lanes}", "array a 4", STEP), 1)

    def test_arrays(self):
        lines = [f"array a{number} 1" for number in range(8)]
        self.assertEqual(len(program("lanes 1", *lines, "step a0[0] := 1").arrays), 8)
        self.raises(OutOfBounds, ("lanes 1", *lines, "array b 1", "step a0[0] := 1"), 10)

    def test_cells_of_one_array(self):
        for size in (1, 2, 63, 64):
            self.assertEqual(program("lanes 1", f"array a {size}", STEP).arrays, (("a", size),))
        for size in (0, 65, 128, 129, LIMIT):
            self.raises(OutOfBounds, ("lanes 1", f"array a {size}", STEP), 2)

    def test_cells_in_all(self):
        self.assertEqual(len(program("lanes 1", "array a 64", "array b 63", "array c 1", STEP).arrays), 3)
        self.raises(OutOfBounds, ("lanes 1", "array a 64", "array b 63", "array c 2", STEP), 4)
        self.raises(OutOfBounds, ("lanes 1", "array a 64", "array b 64", "array c 1", STEP), 4)

    def test_assignments(self):
        for many in (1, 2, 3):
            self.body("step first " + " ; ".join(["a[0] := 1"] * many))
        for many in (4, 5, 50):
            self.raises(OutOfBounds, (*HEAD, "step first " + " ; ".join(["a[0] := 1"] * many)), 4)
            self.raises(OutOfBounds, (*HEAD, "step " + " ; ".join(["a[0] := 1"] * many)), 4)

    def test_numbers_of_a_for_line(self):
        self.body("for i in" + " 5" * 16, STEP, "end")
        for many in (17, 18, 100):
            self.raises(OutOfBounds, (*HEAD, "for i in" + " 5" * many, STEP, "end"), 4)

    def test_nested_blocks(self):
        lines = {"do": ("do", "while 0"), "for": ("for i{} in 1", "end")}
        for kinds in (("do",) * 4, ("for",) * 4, ("do", "for", "do", "for")):
            opened = [lines[kind][0].format(number) for number, kind in enumerate(kinds)]
            closed = [lines[kind][1] for kind in reversed(kinds)]
            self.body(*opened, STEP, *closed)
            for line in ("do", "for x in 1", "for x in" + " 1" * 17):
                self.raises(OutOfBounds, (*HEAD, *opened, line), 8)
                self.raises(OutOfBounds, (*HEAD, *opened, STEP, line), 9)
            self.body(*opened[:3], "do", STEP, "while 0", opened[3], STEP, *closed)

    def test_flat_steps(self):
        self.body(*[STEP] * 48)
        self.raises(OutOfBounds, (*HEAD, *[STEP] * 49), 53)
        self.body("for i in 1 2 3", "for j in" + " 1" * 16, STEP, "end", "end")
        self.raises(OutOfBounds, (*HEAD, "for i in 1 2 3", "for j in" + " 1" * 16, STEP, "end", "end", STEP), 10)
        self.raises(OutOfBounds, (*HEAD, STEP, "for i in 1 2 3", "for j in" + " 1" * 16, STEP, "end", "end", ""), 11)
        self.body("do", "for i in" + " 1" * 16, "do", STEP, STEP, STEP, "while 0", "end", "while 0")
        self.raises(OutOfBounds, (*HEAD, "for i in" + " 1" * 16, STEP, STEP, STEP, STEP, "end"), 10)

    def test_thousands_of_flat_steps(self):
        sixteen = "in" + " 1" * 16
        lines = (*HEAD, f"for i {sixteen}", f"for j {sixteen}", f"for k {sixteen}", STEP, STEP, "end", "end", "end")
        self.raises(OutOfBounds, lines, 12)
        lines = (*HEAD, f"for i {sixteen}", f"for j {sixteen}", f"for k {sixteen}", "for l in 1 2", "step a[0] := 1",
                 "end", "end", "end", "end")
        self.raises(OutOfBounds, lines, 13)


class Names(LineTests):
    def test_names_of_arrays_and_blocks_that_are_reserved(self):
        for word in RESERVED:
            self.raises(BadLine, ("lanes 4", f"array {word} 4"), 2)
            self.bad_here(f"for {word} in 1")

    def test_known_names(self):
        self.body("for i in 1", "for j in 2", "step first a[i] := me + lanes + i + j when i", "end", "end")
        self.body("do", STEP, "while lanes < a[0]")
        self.body("for i in 1", "do", STEP, "while i + lanes", "end")
        self.body(f"step a[me] := {' + '.join(['min(1, 2)', 'max(1, 2)', 'pick(1, 2, 3)'])}")

    def test_unknown_names(self):
        for place in ("step a[{}] := 1", "step a[me] := {}", "step a[me] := 1 when {}", "step a[me] := b[{}]",
                      "step a[me] := 1 ; b[me] := 2 when min(1, {})", "step first a[me] := (1 < {}) * 2"):
            for word in ("x", "i", "a", "b", "place", "workers"):
                self.unknown_here(word, place.format(word))
            for word in RESERVED:
                if word not in (*SPECIAL, "me", "lanes"):
                    self.unknown_here(word, place.format(word))

    def test_unknown_arrays(self):
        for place in ("step {}[0] := 1", "step sum {}[0] := 1", "step a[me] := 1 ; {}[me] := 2", "step a[{}[0]] := 1",
                      "step a[me] := {}[0]", "step a[me] := 1 when 1 + {}[0]"):
            for word in ("c", "x", "place", *[word for word in RESERVED if word not in SPECIAL]):
                self.unknown_here(word, place.format(word))
            for word in SPECIAL:
                self.bad_here(place.format(word))

    def test_names_of_blocks_are_no_arrays_and_arrays_are_no_names(self):
        self.unknown_here("i", "for i in 1", "step a[me] := i[0]")
        self.unknown_here("i", "for i in 1", "step i[me] := 0")
        self.unknown_here("a", "step a[me] := a")

    def test_nth(self):
        self.unknown_here("nth", "step a[me] := nth(0)")
        self.unknown_here("nth", "step a[nth(x)] := y")
        self.unknown_here("nth", "do", STEP, "while nth(0)")
        self.raises(UnknownName, ("lanes 1", "array place 4", "step place[0] := nth(0)"), 3, "nth")

    def test_while_lines(self):
        self.unknown_here("me", "do", STEP, "while me")
        self.unknown_here("me", "do", STEP, "while a[me]")
        self.unknown_here("x", "do", STEP, "while x + me")
        self.unknown_here("c", "do", STEP, "while c[0]")
        self.unknown_here("i", "do", "for i in 1", STEP, "end", "while i")
        self.unknown_here("i", "for i in 1", STEP, "end", "do", STEP, "while i")
        self.body("for i in 1", "do", "for j in 1", STEP, "end", "while i", "end")
        self.unknown_here("j", "for i in 1", "do", "for j in 1", STEP, "end", "while i + j")

    def test_names_of_blocks_behind_their_end(self):
        self.unknown_here("i", "for i in 1", STEP, "end", "step a[me] := i")
        self.unknown_here("j", "for i in 1", "for j in 1", STEP, "end", "step a[me] := i + j")
        self.unknown_here("i", "step a[me] := i")

    def test_taken_names(self):
        self.raises(TakenName, ("lanes 4", "array a 4", "array a 2"), 3, "a")
        self.raises(TakenName, (*HEAD, "array c 4", "array b 1"), 5, "b")
        self.raises(TakenName, (*HEAD, "for a in 1"), 4, "a")
        self.raises(TakenName, (*HEAD, "for i in 1", "for i in 2"), 5, "i")
        self.raises(TakenName, (*HEAD, "for i in 1", "do", "for j in 1", "for i in 2"), 7, "i")
        self.raises(TakenName, (*HEAD, "for i in 1", STEP, "for b in 2"), 6, "b")

    def test_names_that_are_free_again(self):
        self.body("for i in 1", STEP, "end", "for i in 2", "step a[me] := i", "end")
        self.body("for i in 1", "for j in 1", STEP, "end", "for j in 2", STEP, "end", "end")

    def test_names_of_twelve_characters(self):
        made = program("lanes 1", "array abcdefghijkl 2", "for a23456789_12 in 1",
                       "step abcdefghijkl[a23456789_12] := 0", "end")
        self.assertEqual(made.arrays, (("abcdefghijkl", 2),))


class Order(LineTests):
    def test_from_left_to_right_in_a_line(self):
        self.unknown_here("c", "step c[x] := y when z")
        self.unknown_here("x", "step a[x] := y when z")
        self.unknown_here("y", "step a[me] := y when z")
        self.unknown_here("z", "step a[me] := 1 when z ; c[0] := 1")
        self.unknown_here("c", "step a[me] := 1 ; c[x] := 1")
        self.unknown_here("c", "step a[me] := c[x] + y")
        self.unknown_here("x", "step a[me] := a[x] + c[0]")
        self.unknown_here("y", "step a[me] := min(y, x)")
        self.unknown_here("nth", "step a[me] := pick(1, nth(x), y)")
        self.unknown_here("x", "step a[me] := pick(x, nth(1), y)")
        self.unknown_here("z", "step a[me] := 1 + (2 * z) + y")
        self.unknown_here("end", "step a[me] := end + x")
        self.unknown_here("y", "do", STEP, "while 1 < y + x")

    def test_a_bad_line_comes_before_its_words(self):
        self.bad_here("step x[y] := z +")
        self.bad_here("step x[y] := z when 1 <")
        self.bad_here("step x[1] := 2 ; y[1 := 2")
        self.raises(BadLine, ("lanes 4", "step x[y] := z"), 2)
        self.bad_here(STEP, "array a 4")
        self.bad_here("while x")
        self.bad_here("do", "while me")
        self.bad_here("for a in x")
        self.raises(BadLine, ("lanes 4", "for a in 1"), 2)

    def test_a_bad_line_comes_before_its_bounds(self):
        self.bad_here("step first " + " ; ".join(["a[0] := 1"] * 4) + " ;")
        self.bad_here("for i in" + " 1" * 20 + " x")
        self.raises(BadLine, ("lanes 4", "lanes 99"), 2)
        self.raises(BadLine, ("lanes 4", "array me 99"), 2)
        self.bad_here("do", STEP, "array c 99")

    def test_words_come_before_bounds(self):
        self.unknown_here("x", "step " + " ; ".join(["a[0] := 1"] * 4) + " ; a[0] := x")
        self.raises(TakenName, ("lanes 4", "array a 4", "array a 99"), 3, "a")
        self.raises(TakenName, ("lanes 1", *[f"array a{number} 1" for number in range(8)], "array a3 1"), 10, "a3")
        self.raises(TakenName, (*HEAD, "for a in" + " 1" * 17), 4, "a")
        self.raises(TakenName, (*HEAD, "for i in 1", "do", "do", "do", "for i in 1"), 8, "i")

    def test_the_first_line_decides(self):
        self.raises(OutOfBounds, ("lanes 33", "array me 4", "x"), 1)
        self.raises(OutOfBounds, ("lanes 4", "array a 65", "array a 4"), 2)
        self.raises(UnknownName, (*HEAD, "step a[x] := 1", "bad", "lanes 4"), 4, "x")
        self.raises(BadLine, (*HEAD, "bad", "step a[x] := 1"), 4)
        self.raises(TakenName, (*HEAD, "for a in 1", "step y[x] := 1"), 4, "a")
        self.raises(UnknownName, (*HEAD, "do", "step y[x] := 1"), 5, "y")

    def test_needed_rules_come_last(self):
        self.raises(BadLine, (*HEAD, "step a[0] := 1", "do"), 6)
        self.raises(UnknownName, (*HEAD, "step a[0] := 1", "step a[x] := 1"), 5, "x")
        self.raises(OutOfBounds, (*HEAD, *["step a[0] := 1"] * 49), 53)
        self.raises(NeedsRule, (*HEAD, *["step a[0] := 1"] * 48), 4)

    def test_an_open_block_comes_before_too_many_flat_steps(self):
        self.raises(BadLine, (*HEAD, *[STEP] * 49, "do", STEP), 55)


class NeededRules(LineTests):
    def test_several_lanes(self):
        self.body("step a[me] := 1 ; b[3 - me] := 2")
        self.raises(NeedsRule, (*HEAD, "step a[0] := 1"), 4)
        self.raises(NeedsRule, (*HEAD, "", "step a[me] := 1", "", "step a[me] := 1 ; b[lanes] := 1"), 7)
        self.raises(NeedsRule, (*HEAD, "step a[a[me]] := 1"), 4)
        self.raises(NeedsRule, (*HEAD, "step a[me * me] := 1"), 4)
        self.raises(NeedsRule, (*HEAD, "step a[me mod 4] := 1"), 4)
        self.raises(NeedsRule, (*HEAD, "step a[me] := 1 ; a[me + 1] := 1"), 4)
        self.raises(NeedsRule, (*HEAD, "step a[me] := 1 when 0 ; a[me] := 1"), 4)

    def test_one_lane(self):
        head = ("lanes 1", "array a 4", "array b 4")
        program(*head, "step a[0] := 1 ; b[a[0]] := 2")
        program(*head, "step a[me * me] := 1")
        self.raises(NeedsRule, (*head, "step a[0] := 1 ; a[1] := 2"), 4)
        self.raises(NeedsRule, (*head, STEP, "step b[0] := 1 ; a[0] := 1 ; b[1] := 2"), 5)

    def test_a_step_with_a_rule_needs_none(self):
        for rule in RULES:
            self.body(f"step {rule} a[0] := 1 ; a[me * me] := 2 ; a[0] := 3")
            self.body(f"step {rule} a[me] := 1")

    def test_a_rule_that_is_needed_for_some_numbers_only(self):
        self.body("for i in 1 2 3", "step a[i * me] := 1", "end")
        self.raises(NeedsRule, (*HEAD, "for i in 1 0 3", "step a[i * me] := 1", "end"), 5)
        self.raises(NeedsRule, (*HEAD, "for i in 1 1001", STEP, "", "step a[me + i] := 1", "end"), 7)
        self.body("for i in 1 1000", STEP, "step a[me + i] := 1", "end")
        self.body("for i in 1 0 3", "step first a[i * me] := 1", "end")

    def test_the_first_flat_step_decides_not_the_first_line(self):
        self.raises(NeedsRule, (*HEAD, "for i in 1 0", "step a[me * i] := 1", "step b[0] := 1", "end"), 6)
        self.raises(NeedsRule, (*HEAD, "for i in 0 1", "step a[me * i] := 1", "step b[0] := 1", "end"), 5)
        self.raises(NeedsRule, (*HEAD, "for i in 2 1", "for j in 1 0", "step a[me * j] := 1", "end",
                                "step a[me * (i - 2)] := 1", "end"), 6)
        self.raises(NeedsRule, (*HEAD, "for i in 2 1", "do", "for j in 1 3", "step a[me * j] := 1", "end", "while 0",
                                "step a[me * (i - 2)] := 1", "end"), 10)

    def test_by_name(self):
        self.assertEqual(read_program(text="lanes 1\narray a 1\nstep a[0] := 1").lanes, 1)


if __name__ == "__main__":
    unittest.main()
