"""Point 93: the worked examples that need nothing but what is there."""

import unittest

from helpers import check_raises
from stillinstep.errors import BadExpression, NeedsRule
from stillinstep.expressions import value_of
from stillinstep.lines import read_program
from stillinstep.parts import code_of, line_of
from stillinstep.plain import after_step
from stillinstep.reading import read_expression
from stillinstep.writing import write_expression

TEXT = "lanes 2\narray a 2\nstep a[me] := a[me] + a[1 - me]"


class Examples(unittest.TestCase):
    def test_a_value(self):
        self.assertEqual(value_of(read_expression("min(a[1], 3) * me - 7 div 2"), {"me": 2}, {"a": [5, 9]}), 3)

    def test_a_text(self):
        self.assertEqual(write_expression(read_expression("(a[ me ] - (b[0]-1))*(2)")), "(a[me] - (b[0] - 1)) * 2")

    def test_a_text_that_is_refused(self):
        check_raises(self, BadExpression, {"text": "a < b < c"}, read_expression, "a < b < c")

    def test_a_step(self):
        self.assertEqual(after_step(read_program(TEXT), 0, (3, 4)), (7, 7))

    def test_code(self):
        self.assertEqual(code_of(read_program(TEXT)), ((0, "look"), (0, "put")))

    def test_a_rule_that_is_needed(self):
        check_raises(self, NeedsRule, {"line": 3}, read_program, "lanes 2\narray a 2\nstep a[0] := me")

    def test_a_line(self):
        self.assertEqual(line_of(read_expression("2 * (me - 1) + lanes"), 4), (2, 2))


if __name__ == "__main__":
    unittest.main()
