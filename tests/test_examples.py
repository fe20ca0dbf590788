"""Point 93: the worked examples, and those of README.md."""

import contextlib
import io
import os
import re
import unittest

from helpers import check_raises
from stillinstep.accounts import account_bill, account_of
from stillinstep.bills import dearest
from stillinstep.crews import bits_crew
from stillinstep.errors import BadExpression, NeedsRule
from stillinstep.expressions import value_of
from stillinstep.forms import bits_bill, calm_ticks, floor_bill
from stillinstep.leasts import least
from stillinstep.lines import read_program
from stillinstep.machines import Machine, start_cells
from stillinstep.parts import code_of, line_of
from stillinstep.plain import after_step
from stillinstep.reading import read_expression
from stillinstep.runners import even_way, worth
from stillinstep.runs import run_storm
from stillinstep.sharing import share_run
from stillinstep.storms import calm_storm
from stillinstep.tables import dearest_table, table_of
from stillinstep.traces import trace_lines
from stillinstep.ways import TableWay
from stillinstep.wholes import run_bounds
from stillinstep.writing import write_expression

TEXT = "lanes 2\narray a 2\nstep a[me] := a[me] + a[1 - me]"


class Examples(unittest.TestCase):
    def test_a_value(self):
        self.assertEqual(value_of(read_expression("min(a[1], 3) * me - 7 div 2"), {"me": 2}, {"a": [5, 9]}), 3)

    def test_a_text(self):
        self.assertEqual(write_expression(read_expression("(a[ me ] - (b[0]-1))*(2)")), "(a[me] - (b[0] - 1)) * 2")

    def test_a_text_that_is_refused(self):
        check_raises(self, BadExpression, {"text": "a < b < c"}, read_expression, "a < b < c")

    def test_a_step(self):
        self.assertEqual(after_step(read_program(TEXT), 0, (3, 4)), (7, 7))

    def test_code(self):
        self.assertEqual(code_of(read_program(TEXT)), ((0, "look"), (0, "put")))

    def test_a_rule_that_is_needed(self):
        check_raises(self, NeedsRule, {"line": 3}, read_program, "lanes 2\narray a 2\nstep a[0] := me")

    def test_a_line(self):
        self.assertEqual(line_of(read_expression("2 * (me - 1) + lanes"), 4), (2, 2))

    def test_a_crew(self):
        crew = bits_crew(2, bits=1)
        self.assertEqual((crew.seats, crew.leanings), ((0, 2), ((0, 0, 0), (1, 0, 0))))

    def test_a_trace(self):
        machine = Machine(read_program(TEXT), bits_crew(1, bits=1))
        self.assertEqual(trace_lines(machine, start_cells(machine, (3, 4)), ("++", "+1", "+-")), (
            "tick 0 part 1 look 0: ++ 0=take 1=take", "tick 1 part 1 look 0: +1 0=work@2",
            "tick 2 part 1 look 0: +- 0=up@2"))

    def test_cells(self):
        machine = Machine(read_program(TEXT), bits_crew(1, bits=1))
        self.assertEqual(run_storm(machine, start_cells(machine, (3, 4)), ("++", "+1", "+-")).cells, (
            (3, 4), (0, 7, 1, 0), (0, 0, 0, 0), (0, 0, 1, 0), (0, 0), (0, 0), (1, 3), (1, 1), (0, 0)))

    def test_a_report(self):
        machine = Machine(read_program(TEXT), bits_crew(1, bits=1))
        report = run_storm(machine, start_cells(machine, (3, 4)), calm_storm(2, 8))
        self.assertEqual([report.ended, report.bill, report.parts, report.steps],
                         [True, 16, ((1, 0, 8, 3), (2, 1, 8, 7)), ((0, (7, 7)),)])

    def test_bounds_of_a_run(self):
        machine = Machine(read_program(TEXT), bits_crew(1, bits=1))
        self.assertEqual(run_bounds(machine, (3, 4), most=5), (12, 22))

    def test_an_account(self):
        storm = ("++", "+-", "+-", "+-", "++", "++", "++")
        self.assertEqual(account_bill(account_of(bits_crew(1, bits=1), (1, 1), storm)), 11)

    def test_bills(self):
        crew = bits_crew(1, bits=1)
        self.assertEqual((least(crew, (1, 1)), dearest(crew, (1, 1))), (6, 11))

    def test_formulas(self):
        self.assertEqual((bits_bill(4, bits=4, work=1), floor_bill(4, workers=16, work=1),
                          calm_ticks(4, bits=4, work=1)), (553, 553, 10))

    def test_worths(self):
        self.assertEqual([worth(1, 3), worth(2, 2), worth(4, 4), worth(8, 8)], [3, 3, 9, 24])

    def test_a_run_of_sharing(self):
        self.assertEqual(share_run(even_way(), 2, 2, ("+-", "++")), (((1, 1), ()), 3, 2))

    def test_a_table(self):
        self.assertEqual(dearest_table(table_of(even_way(), 2, 2)), 3)

    def test_an_endless_table(self):
        self.assertIs(dearest_table(TableWay(1, [[-1, 0], [0, 0]])), None)


class ReadMe(unittest.TestCase):
    def test_what_is_printed(self):
        path = os.path.join(os.path.dirname(os.path.abspath(__file__)), "..", "README.md")
        with open(path, encoding="utf-8") as file:
            code = "\n".join(re.findall("```python\n(.*?)```", file.read(), re.DOTALL))
        printed = io.StringIO()
        with contextlib.redirect_stdout(printed):
            exec(compile(code, path, "exec"), {})
        told = re.findall("^print.*  # (.*)$", code, re.MULTILINE)
        self.assertEqual(printed.getvalue().splitlines(), told)
        self.assertEqual(len(told), code.count("print("))


if __name__ == "__main__":
    unittest.main()
