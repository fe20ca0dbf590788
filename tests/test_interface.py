"""The interface: each name is defined in its file, with its arguments, and nothing clashes."""

import importlib
import inspect
import unittest

from stillinstep.crews import Crew, bits_crew
from stillinstep.machines import Machine, start_cells
from stillinstep.programs import Program
from stillinstep.runs import Report, run_storm
from stillinstep.ticks import each_tick
from stillinstep.ways import TableWay, Way

FUNCTIONS = {
    "clipping": {"clip": "(number)"},
    "expressions": {"value_of": "(expression, names, arrays)", "words_of": "(expression)"},
    "reading": {"read_expression": "(text)"},
    "writing": {"write_expression": "(expression)"},
    "layout": {"write_program": "(program)"},
    "flat": {"flat_steps": "(program)", "next_step": "(program, index, data)"},
    "memory": {"cells_of": "(program)", "offset_of": "(program, name)", "array_in": "(program, data, name)",
               "data_of": "(program, arrays)"},
    "plain": {"lane_wishes": "(program, index, data, lane)", "writes_of": "(program, index, data)",
              "after_step": "(program, index, data)", "plain_run": "(program, data, *, most)"},
    "parts": {"line_of": "(expression, lanes)", "arrays_read": "(program, index)",
              "arrays_written": "(program, index)", "surely_apart": "(program, index)",
              "parts_of": "(program, index)", "code_of": "(program)"},
    "lines": {"read_program": "(text)"},
    "trees": {"depth_of": "(node)", "is_under": "(node, top)"},
    "crews": {"leaning_child": "(crew, worker, node)", "seated": "(crew, node)", "unseated_nodes": "(crew)",
              "bits_crew": "(height, *, bits)"},
    "walks": {"start_standing": "(crew)", "walk_turn": "(crew, works, standing, worker)",
              "walk_tick": "(crew, works, standing, workers)"},
    "machines": {"jobs_at": "(machine, leaf)", "start_cells": "(machine, data)", "current_part": "(cells)",
                 "has_ended": "(machine, cells)"},
    "jobs": {"job_writes": "(machine, cells, code_index, lane)"},
    "turns": {"turn_of": "(machine, cells, worker)"},
    "storms": {"check_storm": "(storm, workers)", "finishers": "(word)", "storm_of": "(rows, workers)",
               "calm_storm": "(workers, ticks)", "made_writes": "(writes, sign)"},
    "ticks": {"merged": "(rows)", "after_tick": "(machine, cells, word)", "each_tick": "(machine, cells, storm)",
              "standing_of": "(machine, cells)"},
    "runs": {"run_storm": "(machine, cells, storm)"},
    "traces": {"trace_lines": "(machine, cells, storm)"},
    "bills": {"dearest": "(crew, works, *, standing=None)", "tick_choice": "(crew, works, standing)",
              "dearest_storm": "(crew, works, *, standing=None)"},
    "leasts": {"least": "(crew, works)", "least_storm": "(crew, works)"},
    "forms": {"bits_bill": "(height, *, bits, work)", "floor_bill": "(height, *, workers, work)",
              "calm_ticks": "(height, *, bits, work)"},
    "accounts": {"account_of": "(crew, works, storm)", "account_bill": "(account)",
                 "is_account": "(crew, works, account)"},
    "wholes": {"run_bounds": "(machine, data, *, most)", "dearest_run": "(machine, data, *, most)",
               "least_run": "(machine, data, *, most)"},
    "rounds": {"ends_in_rounds": "(machine, data, *, first, again, most)",
               "rounds_to_end": "(machine, data, *, first, again, most)"},
    "sharing": {"start_state": "(way, places)", "wish_of": "(way, places, workers, state, worker)",
                "after_share": "(way, places, workers, state, word)",
                "share_run": "(way, places, workers, storm)"},
    "runners": {"worth": "(places, workers)", "fullest_storm": "(way, places, workers)", "even_way": "()",
                "halving_storm": "(way, places, workers)"},
    "tables": {"table_of": "(way, places, workers)", "dearest_table": "(table)", "table_paper": "(table)",
               "is_table_paper": "(table, paper)", "table_storm": "(table)", "endless_storm": "(table)"},
    "samples": {"sums_text": "(n)", "sort_text": "(n)", "ranks_text": "(n)", "ways_text": "(n)",
                "groups_text": "(n, m)", "counts_text": "(n, k)", "top_text": "(n)", "brackets_text": "(n)",
                "cells_text": "(n, rule, rounds)", "order_text": "(n)", "adds_text": "(n)"},
    "waytexts": {"write_way": "(way)", "read_way": "(text)"},
    "crewtexts": {"write_crew": "(crew)", "read_crew": "(text)", "write_storm": "(storm)",
                  "read_storm": "(text, *, workers)"},
    "celltexts": {"write_cells": "(machine, cells)", "read_cells": "(machine, text)"},
}


class Interface(unittest.TestCase):
    def test_functions(self):
        for file, functions in FUNCTIONS.items():
            module = importlib.import_module(f"stillinstep.{file}")
            for name, arguments in functions.items():
                with self.subTest(f"{file} {name}"):
                    function = getattr(module, name)
                    self.assertTrue(inspect.isfunction(function))
                    self.assertEqual(function.__module__, f"stillinstep.{file}")
                    self.assertEqual(str(inspect.signature(function)), arguments)

    def test_program(self):
        self.assertEqual(Program.__module__, "stillinstep.programs")
        made = importlib.import_module("stillinstep.lines").read_program("lanes 1\narray a 1\nstep a[0] := 1")
        self.assertEqual(set(vars(made)), {"lanes", "arrays", "body"})

    def test_crew(self):
        self.assertEqual(Crew.__module__, "stillinstep.crews")
        self.assertEqual(str(inspect.signature(Crew)), "(height, seats, leanings)")
        self.assertEqual(set(vars(Crew(1, [0], [[0]]))), {"height", "seats", "leanings"})
        self.assertIsInstance(vars(Crew)["workers"], property)
        self.assertIsInstance(vars(Crew)["leaves"], property)
        self.assertIn("__eq__", vars(Crew))

    def test_machine_and_report(self):
        self.assertEqual((Machine.__module__, Report.__module__), ("stillinstep.machines", "stillinstep.runs"))
        self.assertEqual(str(inspect.signature(Machine)), "(program, crew)")
        made = importlib.import_module("stillinstep.lines").read_program("lanes 1\narray a 1\nstep a[0] := 1")
        machine = Machine(made, bits_crew(1, bits=0))
        self.assertEqual(set(vars(machine)), {"program", "crew", "code", "steps", "slots", "works"})
        report = run_storm(machine, start_cells(machine, (0,)), ())
        self.assertEqual(set(vars(report)), {"cells", "ended", "bill", "parts", "steps", "turns"})

    def test_ways(self):
        self.assertEqual((Way.__module__, TableWay.__module__), ("stillinstep.ways", "stillinstep.ways"))
        self.assertEqual(str(inspect.signature(Way)), "(place, *, notes=0, note=None)")
        self.assertEqual(str(inspect.signature(TableWay)), "(places, rows)")
        self.assertEqual(set(vars(Way(("number", 0)))), {"place", "notes", "note"})
        self.assertEqual(set(vars(TableWay(1, [[0], [0]]))), {"places", "rows"})
        self.assertIn("__eq__", vars(Way))
        self.assertIn("__eq__", vars(TableWay))

    def test_each_tick_is_a_generator(self):
        self.assertTrue(inspect.isgeneratorfunction(each_tick))


if __name__ == "__main__":
    unittest.main()
