"""The interface: each name is defined in its file, with its arguments, and nothing clashes."""

import importlib
import inspect
import unittest

from stillinstep.programs import Program

FUNCTIONS = {
    "clipping": {"clip": "(number)"},
    "expressions": {"value_of": "(expression, names, arrays)", "words_of": "(expression)"},
    "reading": {"read_expression": "(text)"},
    "writing": {"write_expression": "(expression)"},
    "layout": {"write_program": "(program)"},
    "flat": {"flat_steps": "(program)", "next_step": "(program, index, data)"},
    "memory": {"cells_of": "(program)", "offset_of": "(program, name)", "array_in": "(program, data, name)",
               "data_of": "(program, arrays)"},
    "plain": {"lane_wishes": "(program, index, data, lane)", "writes_of": "(program, index, data)",
              "after_step": "(program, index, data)", "plain_run": "(program, data, *, most)"},
    "parts": {"line_of": "(expression, lanes)", "arrays_read": "(program, index)",
              "arrays_written": "(program, index)", "surely_apart": "(program, index)",
              "parts_of": "(program, index)", "code_of": "(program)"},
    "lines": {"read_program": "(text)"},
}


class Interface(unittest.TestCase):
    def test_functions(self):
        for file, functions in FUNCTIONS.items():
            module = importlib.import_module(f"stillinstep.{file}")
            for name, arguments in functions.items():
                with self.subTest(f"{file} {name}"):
                    function = getattr(module, name)
                    self.assertTrue(inspect.isfunction(function))
                    self.assertEqual(function.__module__, f"stillinstep.{file}")
                    self.assertEqual(str(inspect.signature(function)), arguments)

    def test_program(self):
        self.assertEqual(Program.__module__, "stillinstep.programs")
        made = importlib.import_module("stillinstep.lines").read_program("lanes 1\narray a 1\nstep a[0] := 1")
        self.assertEqual(set(vars(made)), {"lanes", "arrays", "body"})


if __name__ == "__main__":
    unittest.main()
