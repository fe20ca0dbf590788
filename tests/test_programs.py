"""Point 18: programs, when they are equal, and their text."""

import random
import unittest

from helpers import check_plain, check_unchanged, program
from stillinstep.errors import StillError
from stillinstep.layout import write_program
from stillinstep.lines import read_program
from stillinstep.programs import Program

HEAD = "lanes 4\narray a 4\narray b 3"
NESTED = HEAD + """
step a[me] := 1
for i in 3 1 2
  do
    step sum a[i] := me ; b[0] := a[me] - (i - 1) when me < i
    for j in 0
      do
        step a[me] := a[me] + j
      while a[j] < 3
    end
    step least b[a[me]] := (me = 1) + 2 ; b[1] := 2 ; b[1] := min(me, i) when a[0]
  while (a[0] + i) * 2 < lanes
end
do
  step most a[0] := me
while 0"""


def any_expression(chance, names, depth):
    """The text of an expression over these names and the arrays a and b."""
    kind = chance.randrange(6) if depth > 1 else chance.randrange(2)
    if kind == 0:
        return str(chance.choice((0, 1, 2, 7, 10 ** 12)))
    if kind == 1:
        return chance.choice(names)
    parts = [any_expression(chance, names, depth - 1) for _ in range(3)]
    if kind == 2:
        return f"{chance.choice('ab')}[{parts[0]}]"
    if kind == 3:
        return chance.choice(("min({}, {})", "max({}, {})", "pick({}, {}, {})")).format(*parts)
    sign = chance.choice(("+", "-", "*", "div", "mod", "<", "<=", ">", ">=", "=", "!="))
    return f"({parts[0]}) {sign} ({parts[1]})"


def any_step(chance, names):
    """The text of a step line."""
    assignments = []
    for _ in range(chance.randrange(1, 4)):
        texts = [any_expression(chance, names + ["me"], 3) for _ in range(3)]
        text = f"{chance.choice('ab')}[{texts[0]}]:={texts[1]}"
        assignments.append(text + (f" when {texts[2]}" if chance.random() < 0.4 else ""))
    return f"step {chance.choice(('first', 'sum', 'most', 'least'))} " + ";".join(assignments)


def any_body(chance, names, depth):
    """The lines of a body."""
    lines = []
    for _ in range(chance.randrange(1, 3)):
        kind = chance.randrange(3) if depth < 4 else 0
        if kind == 0:
            lines.append(any_step(chance, names))
        elif kind == 1:
            name = f"i{depth}"
            lines.append(f"for {name} in 1 2")
            lines += any_body(chance, names + [name], depth + 1)
            lines.append("end")
        else:
            lines.append("do")
            lines += any_body(chance, names, depth + 1)
            lines.append("while " + any_expression(chance, names, 3))
    return lines


def any_program(chance):
    """A program of some size, or None where one bound happens to be broken."""
    lines = [f"lanes {chance.randrange(1, 33)}", "array a 4", "array b 3"] + any_body(chance, ["lanes"], 0)
    try:
        return read_program("\n".join(lines))
    except StillError:
        return None


class Equality(unittest.TestCase):
    def test_equal_programs(self):
        self.assertTrue(read_program(NESTED) == read_program(NESTED.replace(" ", "   ").replace("\n", " \n\n")))
        self.assertFalse(read_program(NESTED) != read_program(NESTED))

    def test_programs_that_differ_in_one_field(self):
        text = "lanes 2\narray a 2\narray b 2\nstep a[me] := b[me]"
        first = read_program(text)
        others = [text.replace("lanes 2", "lanes 3"), text.replace("b 2", "b 3"), text.replace("a 2", "a 1"),
                  text.replace("b[me]", "b[0]"), text.replace("step", "step sum"), text + " when me",
                  text + "\nstep a[me] := b[me]", text.replace("array b", "array c").replace("b[me]", "c[me]"),
                  text.replace("step", "for i in 1\nstep") + "\nend", text.replace("step", "do\nstep") + "\nwhile 0"]
        for other in others:
            with self.subTest(other):
                self.assertTrue(first != read_program(other))
                self.assertFalse(first == read_program(other))

    def test_the_order_of_arrays_counts(self):
        text = "lanes 2\narray a 2\narray b 2\nstep a[me] := b[me]"
        other = text.replace("array a 2\narray b 2", "array b 2\narray a 2")
        self.assertTrue(read_program(text) != read_program(other))

    def test_objects_of_other_classes(self):
        made = read_program(NESTED)

        class Other:
            lanes, arrays, body = made.lanes, made.arrays, made.body

        for other in (Other(), None, 4, NESTED, (made.lanes, made.arrays, made.body), [made]):
            self.assertFalse(made == other)
            self.assertTrue(made != other)

    def test_eq_is_defined_in_the_class(self):
        self.assertIn("__eq__", vars(Program))


class Writing(unittest.TestCase):
    def test_a_nested_program(self):
        made = read_program(NESTED)
        self.assertEqual(check_unchanged(self, write_program, made), NESTED)
        self.assertEqual(write_program(program=made), NESTED)
        check_plain(self, (made.lanes, made.arrays, made.body))

    def test_free_spaces_and_parentheses_are_gone(self):
        text = ("\nlanes 4\n\n   array   a  4\narray b 3 \n step  sum a[ (me) ]:=((1)+2);b[0]:=1 when(me)<2\n"
                "for i in 1   2\n\nstep a[me]:=b[me]\nend\n")
        self.assertEqual(write_program(read_program(text)),
                         HEAD + "\nstep sum a[me] := 1 + 2 ; b[0] := 1 when me < 2\nfor i in 1 2\n"
                         "  step a[me] := b[me]\nend")

    def test_the_deepest_blocks(self):
        lines = ["lanes 1", "array a 1", "do", "  for i in 1", "    do", "      for j in 1 2",
                 "        step a[0] := j", "      end", "    while i", "  end", "while 0"]
        self.assertEqual(write_program(program(*lines)), "\n".join(lines))

    def test_many_programs_read_back(self):
        chance = random.Random(3)
        made = [any_program(chance) for _ in range(600)]
        made = [one for one in made if one is not None]
        self.assertGreater(len(made), 300)
        for one in made:
            text = write_program(one)
            self.assertTrue(read_program(text) == one, text)
            self.assertEqual(write_program(read_program(text)), text)
            check_plain(self, one.body)


if __name__ == "__main__":
    unittest.main()
