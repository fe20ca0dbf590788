"""Point 56: a run as lines of text."""

import random
import unittest

from drawing import drawn_crew, drawn_data, drawn_program, drawn_storm
from helpers import check_plain, check_unchanged, program
from stillinstep.crews import Crew, bits_crew
from stillinstep.machines import Machine, current_part, has_ended, start_cells
from stillinstep.runs import run_storm
from stillinstep.storms import calm_storm
from stillinstep.ticks import each_tick
from stillinstep.traces import trace_lines


class Traces(unittest.TestCase):
    def lines(self, machine, cells, storm):
        results = [check_unchanged(self, trace_lines, machine, cells, kind(storm)) for kind in (tuple, list)]
        self.assertEqual(results[0], results[1])
        check_plain(self, results[0])
        self.assertIs(type(results[0]), tuple)
        return results[0]

    def test_the_worked_example(self):
        machine = Machine(program("lanes 2", "array a 2", "step a[me] := a[me] + a[1 - me]"), bits_crew(1, bits=1))
        cells = start_cells(machine, (3, 4))
        self.assertEqual(self.lines(machine, cells, ("++", "+1", "+-")), (
            "tick 0 part 1 look 0: ++ 0=take 1=take", "tick 1 part 1 look 0: +1 0=work@2",
            "tick 2 part 1 look 0: +- 0=up@2"))
        self.assertEqual(self.lines(machine, cells, ()), ())

    def test_the_form_of_the_documents_line(self):
        # Workers 0 and 3 of four finish a turn in tick 3: one works at the node 4, one goes up from 7.
        machine = Machine(program("lanes 8", "array a 8", "step a[me] := a[0]"), bits_crew(2, bits=2))
        storm = ("++++", "---+", "---+", "+-2+")
        lines = self.lines(machine, start_cells(machine, (0,) * 8), storm)
        self.assertEqual(lines[3], "tick 3 part 1 look 0: +-2+ 0=work@4 3=up@7")

    def test_all_acts_and_all_kinds(self):
        made = program("lanes 1", "array a 1", "step first a[0] := 2", "step a[0] := 5")
        machine = Machine(made, Crew(1, (1,), ((0,),)))
        acts = ("take", "work@3", "up@3", "down@1", "work@2", "up@2", "mark@1")
        wanted = []
        for part, (kind, step) in enumerate((("look", 0), ("settle", 0), ("put", 0), ("direct", 1)), start=1):
            wanted += [f"part {part} {kind} {step}: + 0={act}" for act in acts]
        lines = self.lines(machine, start_cells(machine, (0,)), calm_storm(1, 28))
        self.assertEqual(lines, tuple(f"tick {tick} {text}" for tick, text in enumerate(wanted)))

    def test_behind_the_end_of_the_program(self):
        made = program("lanes 1", "array a 1", "step a[0] := 5")
        machine = Machine(made, Crew(1, (1,), ((0,),)))
        lines = self.lines(machine, start_cells(machine, (0,)), (*calm_storm(1, 7), "+", "-", "7", "+"))
        self.assertEqual(lines[6:], ("tick 6 part 1 direct 0: + 0=mark@1", "tick 7 ended: +", "tick 8 ended: -",
                                     "tick 9 ended: 7", "tick 10 ended: +"))
        ended = run_storm(machine, start_cells(machine, (0,)), calm_storm(1, 7)).cells
        self.assertEqual(self.lines(machine, ended, ("+", "0")), ("tick 0 ended: +", "tick 1 ended: 0"))

    def test_ticks_are_counted_from_the_begin_of_the_storm(self):
        made = program("lanes 1", "array a 1", "step a[0] := 5", "step a[0] := 6")
        machine = Machine(made, Crew(1, (1,), ((0,),)))
        cells = run_storm(machine, start_cells(machine, (0,)), calm_storm(1, 8)).cells
        self.assertEqual(self.lines(machine, cells, ("-", "+")),
                         ("tick 0 part 2 direct 1: -", "tick 1 part 2 direct 1: + 0=work@3"))

    def test_nobody_finishes(self):
        machine = Machine(program("lanes 1", "array a 1", "step a[0] := 5"), bits_crew(1, bits=2))
        cells = start_cells(machine, (0,))
        self.assertEqual(self.lines(machine, cells, ("----", "0519")),
                         ("tick 0 part 1 direct 0: ----", "tick 1 part 1 direct 0: 0519"))

    def test_drawn_runs(self):
        chance = random.Random(56)
        for _ in range(30):
            machine = Machine(drawn_program(chance), drawn_crew(chance))
            cells = start_cells(machine, drawn_data(chance, machine.program))
            storm = drawn_storm(chance, machine.crew.workers, 80, 0.8)
            turns = run_storm(machine, cells, storm).turns
            wanted = []
            for tick, (word, now) in enumerate(zip(storm, [cells, *each_tick(machine, cells, storm)])):
                part, code_index = current_part(now)
                text = f"tick {tick} ended: {word}"
                if not has_ended(machine, now):
                    step, kind = machine.code[code_index]
                    text = f"tick {tick} part {part} {kind} {step}: {word}"
                for at_tick, worker, _, act, at in turns:
                    if at_tick == tick:
                        text += f" {worker}={act}" + ("" if act == "take" else f"@{at}")
                wanted.append(text)
            self.assertEqual(self.lines(machine, cells, storm), tuple(wanted))

    def test_by_name(self):
        machine = Machine(program("lanes 1", "array a 1", "step a[0] := 5"), Crew(1, (1,), ((0,),)))
        self.assertEqual(trace_lines(machine=machine, cells=start_cells(machine, (0,)), storm=["+"]),
                         ("tick 0 part 1 direct 0: + 0=take",))


if __name__ == "__main__":
    unittest.main()
