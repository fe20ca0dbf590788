"""Points 54 and 55: what a storm comes to, and the main promise."""

import random
import unittest

from drawing import drawn_crew, drawn_data, drawn_program, drawn_storm
from helpers import check_plain, check_raises, check_unchanged, program
from stillinstep.bills import dearest
from stillinstep.crews import Crew, bits_crew
from stillinstep.errors import BadStorm
from stillinstep.leasts import least
from stillinstep.machines import Machine, current_part, has_ended, start_cells
from stillinstep.memory import data_of
from stillinstep.plain import plain_run
from stillinstep.runs import Report, run_storm
from stillinstep.storms import calm_storm
from stillinstep.ticks import after_tick, each_tick
from stillinstep.turns import turn_of

TEXT = ("lanes 2", "array a 2", "step a[me] := a[me] + a[1 - me]")
ONE = Crew(1, (0,), ((0,),))


class RunTests(unittest.TestCase):
    def run_of(self, machine, cells, storm):
        """The report of a storm that is passed as a tuple and as a list, its fields looked at."""
        reports = [check_unchanged(self, run_storm, machine, cells, kind(storm)) for kind in (tuple, list)]
        self.assertEqual(vars(reports[0]), vars(reports[1]))
        report = reports[0]
        self.assertIs(type(report), Report)
        self.assertIs(type(report.ended), bool)
        for value in (report.cells, report.bill, report.parts, report.steps, report.turns):
            check_plain(self, value)
        for value in (report.cells, report.parts, report.steps, report.turns):
            self.assertIs(type(value), tuple)
        return report

    def all_fields(self, report):
        return [report.ended, report.bill, report.parts, report.steps, report.turns]


class Reports(RunTests):
    def setUp(self):
        self.machine = Machine(program(*TEXT), bits_crew(1, bits=1))
        self.cells = start_cells(self.machine, (3, 4))

    def test_worked_by_hand(self):
        report = self.run_of(self.machine, self.cells, ("++", "+1", "+-"))
        self.assertEqual(report.cells, ((3, 4), (0, 7, 1, 0), (0, 0, 0, 0), (0, 0, 1, 0), (0, 0), (0, 0), (1, 3),
                                        (1, 1), (0, 0)))
        self.assertEqual(self.all_fields(report), [False, 4, (), (), (
            (0, 0, 1, "take", 0), (0, 1, 1, "take", 0), (1, 0, 1, "work", 2), (2, 0, 1, "up", 2))])

    def test_a_calm_run_to_the_end(self):
        report = self.run_of(self.machine, self.cells, calm_storm(2, 8))
        self.assertEqual(self.all_fields(report)[:4], [True, 16, ((1, 0, 8, 3), (2, 1, 8, 7)), ((0, (7, 7)),)])
        acts = [("take", 0, 0), ("work", 2, 3), ("up", 2, 3), ("mark", 1, 1)]
        self.assertEqual(report.turns, tuple(
            (4 * part + tick, worker, part + 1, act[0], act[1 + worker])
            for part in (0, 1) for tick, act in enumerate(acts) for worker in (0, 1)))

    def test_the_empty_storm(self):
        report = self.run_of(self.machine, self.cells, ())
        self.assertEqual(report.cells, self.cells)
        self.assertEqual(self.all_fields(report), [False, 0, (), (), ()])

    def test_a_storm_that_goes_on_after_the_end(self):
        short = self.run_of(self.machine, self.cells, calm_storm(2, 8))
        long = self.run_of(self.machine, self.cells, (*calm_storm(2, 8), "++", "+-", "19", "--", "++"))
        self.assertEqual(vars(long), vars(short))

    def test_one_that_begins_at_the_end(self):
        ended = self.run_of(self.machine, self.cells, calm_storm(2, 8)).cells
        for storm in ((), ("++", "+3", "--")):
            report = self.run_of(self.machine, ended, storm)
            self.assertEqual(report.cells, ended)
            self.assertEqual(self.all_fields(report), [True, 0, (), (), ()])

    def test_one_that_ends_with_its_last_word(self):
        self.assertIs(self.run_of(self.machine, self.cells, calm_storm(2, 7)).ended, False)
        self.assertIs(self.run_of(self.machine, self.cells, calm_storm(2, 8)).ended, True)

    def test_one_that_begins_in_the_middle_of_a_part(self):
        middle = self.run_of(self.machine, self.cells, ("++", "+1", "+-")).cells
        report = self.run_of(self.machine, middle, ("-+", "-+", "+2", "++", "++", "++", "++"))
        self.assertEqual(self.all_fields(report), [True, 11, ((1, 0, 3, 2), (2, 1, 8, 6)), ((0, (7, 7)),), (
            (0, 1, 1, "work", 3), (1, 1, 1, "up", 3), (2, 0, 1, "mark", 1),
            (3, 0, 2, "take", 0), (3, 1, 2, "take", 0), (4, 0, 2, "work", 2), (4, 1, 2, "work", 3),
            (5, 0, 2, "up", 2), (5, 1, 2, "up", 3), (6, 0, 2, "mark", 1), (6, 1, 2, "mark", 1))])

    def test_one_that_begins_in_the_last_part_of_a_step(self):
        middle = self.run_of(self.machine, self.cells, calm_storm(2, 5)).cells
        self.assertEqual(current_part(middle), (2, 1))
        report = self.run_of(self.machine, middle, calm_storm(2, 3))
        self.assertEqual(self.all_fields(report)[:4], [True, 6, ((2, 1, 6, 2),), ((0, (7, 7)),)])

    def test_several_workers_mark_the_root(self):
        report = self.run_of(self.machine, self.cells, ("++", "++", "++", "+9"))
        self.assertEqual(report.parts, ((1, 0, 7, 3),))
        report = self.run_of(self.machine, self.cells, ("++", "++", "++", "9+"))
        self.assertEqual((report.parts, report.turns[-1]), (((1, 0, 7, 3),), (3, 1, 1, "mark", 1)))

    def test_cut_turns_are_not_finished(self):
        report = self.run_of(self.machine, self.cells, ("99", "00", "--", "15") * 5)
        self.assertEqual(self.all_fields(report), [False, 0, (), (), ()])

    def test_bad_words(self):
        for tick, storm in ((0, ["+"]), (1, ["++", "+x", "+"]), (4, ["++"] * 4 + ["+++"]), (20, ["++"] * 20 + [""])):
            check_raises(self, BadStorm, {"tick": tick}, run_storm, self.machine, self.cells, storm)

    def test_a_bad_word_at_the_end_and_nothing_is_performed(self):
        performed = []

        class Cells(tuple):
            """Cells that tell when they are read."""

            def __getitem__(self, at):
                performed.append(at)
                return tuple.__getitem__(self, at)

            def __iter__(self):
                performed.append("all")
                return tuple.__iter__(self)

        run_storm(self.machine, Cells(self.cells), ["++"])
        self.assertNotEqual(performed, [])
        performed.clear()
        check_raises(self, BadStorm, {"tick": 3}, run_storm, self.machine, Cells(self.cells), ["++"] * 3 + ["+"])
        self.assertEqual(performed, [])

    def test_by_name(self):
        report = run_storm(machine=self.machine, cells=self.cells, storm=["++"])
        self.assertEqual(report.bill, 2)


class Runs(RunTests):
    def check(self, lines, data, crew=ONE, ticks=600, most=20):
        """Performs a calm run; returns the report and the plain run."""
        machine = Machine(program(*lines), crew)
        report = self.run_of(machine, start_cells(machine, data), calm_storm(crew.workers, ticks))
        steps, ended = plain_run(machine.program, data, most=most)
        self.assertEqual((report.steps, report.ended), (steps, ended))
        self.assertEqual(report.cells[0], steps[-1][1] if steps else data)
        return report

    def test_parts_and_steps_of_several_steps(self):
        report = self.check(["lanes 1", "array a 2", "step a[0] := 1", "step sum a[1] := a[0]", "step a[0] := a[1] + 1"],
                            (7, 8))
        # One worker on two leaves: take, work, up, down, work, up, mark.
        self.assertEqual(report.parts, tuple((part, part - 1, 7, 7 * part - 1) for part in range(1, 7)))
        self.assertEqual(report.steps, ((0, (1, 8)), (1, (1, 1)), (2, (2, 1))))
        self.assertEqual(report.bill, 42)

    def test_a_do_block_that_goes_round(self):
        report = self.check(["lanes 2", "array a 2", "do", "step a[me] := a[me] + 1", "while a[0] < 3", "step a[me] := 0"],
                            (0, 5))
        self.assertEqual([index for index, _ in report.steps], [0, 0, 0, 1])
        self.assertEqual([code_index for _, code_index, _, _ in report.parts], [0, 1, 0, 1, 0, 1, 2])
        self.assertEqual([part for part, _, _, _ in report.parts], [1, 2, 3, 4, 5, 6, 7])

    def test_each_rule(self):
        for rule in ("first", "sum", "most", "least"):
            for crew in (ONE, bits_crew(2, bits=1), bits_crew(3, bits=4)):
                self.check(["lanes 5", "array a 5", "array b 2", f"step {rule} b[me mod 2] := a[me] ; b[0] := a[4 - me]",
                            f"step {rule} b[1] := b[0] when me > 1"], (3, -9, 4, 10 ** 12, 8, 0, 0), crew)

    def test_a_program_that_never_ends(self):
        lines = ["lanes 1", "array a 1", "do", "step a[0] := a[0] + 1", "while 1"]
        machine = Machine(program(*lines), ONE)
        report = self.run_of(machine, start_cells(machine, (0,)), calm_storm(1, 14 * 9 + 3))
        self.assertEqual(report.steps, tuple((0, (number,)) for number in range(1, 10)))
        self.assertEqual((report.ended, report.bill, len(report.parts)), (False, 14 * 9 + 3, 18))

    def test_a_program_that_does_not_end_within_the_storm(self):
        lines = ["lanes 1", "array a 1", "step a[0] := 1", "step a[0] := 2"]
        machine = Machine(program(*lines), ONE)
        report = self.run_of(machine, start_cells(machine, (0,)), calm_storm(1, 13))
        self.assertEqual((report.ended, report.steps, report.parts), (False, ((0, (1,)),), ((1, 0, 7, 6),)))
        self.assertEqual(report.cells[0], (2,))

    def test_a_program_with_arrays(self):
        text = ["lanes 4", "array a 4", "for hop in 1 2", "step a[me] := a[me] + pick(me >= hop, a[me - hop], 0)", "end"]
        report = self.check(text, data_of(program(*text), {"a": [3, 1, 4, 1]}), bits_crew(2, bits=2))
        self.assertEqual(report.cells[0], (3, 4, 8, 9))

    def test_as_turn_by_turn(self):
        chance = random.Random(54)
        for _ in range(25):
            machine = Machine(drawn_program(chance), drawn_crew(chance))
            cells = start_cells(machine, drawn_data(chance, machine.program))
            storm = drawn_storm(chance, machine.crew.workers, 60, 0.8)
            begin = chance.randrange(30)
            for cells in each_tick(machine, cells, storm[:begin]):
                pass
            report = self.run_of(machine, cells, storm[begin:])
            turns, ends = [], []
            for tick, word in enumerate(storm[begin:]):
                part, code_index = current_part(cells)
                for worker, sign in enumerate(word):
                    act, _ = turn_of(machine, cells, worker)
                    if sign == "+" and act != "idle":
                        turns.append((tick, worker, part, act, 0 if act == "take" else cells[6][worker]))
                cells = after_tick(machine, cells, word)
                if current_part(cells)[0] != part:
                    bill = sum(turn[2] == part for turn in turns)
                    ends.append((part, code_index, bill, tick))
            self.assertEqual((report.cells, report.ended), (cells, has_ended(machine, cells)))
            self.assertEqual((report.turns, report.parts, report.bill), (tuple(turns), tuple(ends), len(turns)))
            self.assertEqual(report.turns, tuple(sorted(report.turns, key=lambda turn: turn[:2])))


class MainPromise(RunTests):
    """Point 55, for drawn programs, memories, crews and storms."""

    def check(self, machine, data, report):
        steps = report.steps
        for most in (len(steps), len(steps) + 1, 1000):
            plain, ended = plain_run(machine.program, data, most=most)
            self.assertEqual(plain[:len(steps)], steps)
        self.assertIs(report.ended, ended and len(plain) == len(steps))

    def test_two_storms_beside_one_another(self):
        chance = random.Random(55)
        ended = done = 0
        for _ in range(60):
            made = drawn_program(chance)
            data = drawn_data(chance, made)
            machine = Machine(made, drawn_crew(chance))
            reports = []
            for finishing in (chance.choice((0.1, 0.4)), chance.choice((0.7, 1))):
                storm = drawn_storm(chance, machine.crew.workers, 500, finishing)
                reports.append(self.run_of(machine, start_cells(machine, data), storm))
                self.check(machine, data, reports[-1])
                ended += reports[-1].ended
                done += len(reports[-1].steps)
            shared = min(len(report.steps) for report in reports)
            self.assertEqual(reports[0].steps[:shared], reports[1].steps[:shared])
        self.assertGreater(ended, 40)
        self.assertGreater(done, 200)

    def test_two_crews(self):
        chance = random.Random(551)
        for _ in range(25):
            made = drawn_program(chance)
            data = drawn_data(chance, made)
            for _ in range(2):
                machine = Machine(made, drawn_crew(chance))
                storm = drawn_storm(chance, machine.crew.workers, 200, 0.9)
                self.check(machine, data, self.run_of(machine, start_cells(machine, data), storm))

    def test_every_plus_finishes_a_turn_until_the_end(self):
        chance = random.Random(552)
        for _ in range(25):
            machine = Machine(drawn_program(chance), drawn_crew(chance))
            storm = drawn_storm(chance, machine.crew.workers, 100, 0.6)
            report = self.run_of(machine, start_cells(machine, drawn_data(chance, machine.program)), storm)
            if not report.ended:
                self.assertEqual(report.bill, sum(word.count("+") for word in storm))

    def test_the_dearest_bill_is_always_enough(self):
        chance = random.Random(553)
        tried = 0
        while tried < 12:
            made = drawn_program(chance)
            data = drawn_data(chance, made)
            steps, ended = plain_run(made, data, most=8)
            if not ended:
                continue
            tried += 1
            machine = Machine(made, drawn_crew(chance, height=chance.randint(1, 3)))
            parts = sum(index == step for step, _ in steps for index, _ in machine.code)
            needed = parts * dearest(machine.crew, machine.works)
            storm = []
            while sum(word.count("+") for word in storm) < needed:
                storm += drawn_storm(chance, machine.crew.workers, 50, 0.3)
            report = self.run_of(machine, start_cells(machine, data), storm)
            self.assertIs(report.ended, True)
            self.assertEqual((report.steps, len(report.parts)), (steps, parts))
            self.assertLessEqual(report.bill, needed)
            self.assertGreaterEqual(report.bill, parts * least(machine.crew, machine.works))


if __name__ == "__main__":
    unittest.main()
