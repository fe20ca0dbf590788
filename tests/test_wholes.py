"""Points 69 and 70: the bills of whole runs and the storms that reach them."""

import random
import unittest

from drawing import drawn_crew, drawn_data, drawn_program, drawn_storm
from helpers import check_plain, check_raises, check_unchanged, program
from stillinstep.bills import dearest
from stillinstep.crews import Crew, bits_crew
from stillinstep.errors import NotEnded
from stillinstep.leasts import least
from stillinstep.machines import Machine, start_cells
from stillinstep.plain import plain_run
from stillinstep.runs import run_storm
from stillinstep.storms import calm_storm, check_storm
from stillinstep.wholes import dearest_run, least_run, run_bounds

ONE = ("lanes 2", "array a 2", "step a[me] := a[me] + a[1 - me]")
# A do block that goes round until a[0] is 3, then a step with a rule and one of one part.
SEVERAL = ("lanes 2", "array a 2", "array b 2", "do", "step a[me] := a[me] + 1", "while a[0] < 3",
           "step sum b[0] := a[me]", "step b[me] := a[1 - me]")


class WholeTests(unittest.TestCase):
    def call(self, function, machine, data, most):
        """Calls with the memory as a tuple and as a list, and looks at what is returned."""
        results = [check_unchanged(self, function, machine, kind(data), most=most) for kind in (tuple, list)]
        self.assertEqual(results[0], results[1])
        check_plain(self, results[0])
        self.assertIs(type(results[0]), tuple)
        return results[0]

    def check_storm(self, machine, data, storm, bill):
        """Performs the storm of a whole run, which has this bill."""
        check_storm(storm, machine.crew.workers)
        for word in storm:
            self.assertIn("+", word)
            self.assertEqual(set(word) - set("+-"), set())
        cells = start_cells(machine, data)
        self.assertIs(run_storm(machine, cells, storm[:-1]).ended, False)
        report = run_storm(machine, cells, storm)
        self.assertEqual((report.ended, report.bill), (True, bill))

    def check(self, machine, data, parts, most):
        """Looks at the bounds of a run with so many parts, and at its storms."""
        low, high = self.call(run_bounds, machine, data, most)
        self.assertEqual((low, high), (parts * least(machine.crew, machine.works),
                                       parts * dearest(machine.crew, machine.works)))
        if most <= 30:
            self.check_storm(machine, data, self.call(least_run, machine, data, most), low)
            self.check_storm(machine, data, self.call(dearest_run, machine, data, most), high)

    def refuse(self, machine, data, most):
        for function in (run_bounds, dearest_run, least_run):
            for kind in (tuple, list):
                check_raises(self, NotEnded, {"most": most}, function, machine, kind(data), most=most)


class OneStep(WholeTests):
    def test_worked_by_hand(self):
        machine = Machine(program(*ONE), bits_crew(1, bits=1))
        self.assertEqual(self.call(run_bounds, machine, (3, 4), 5), (12, 22))

    def test_each_kind_of_step(self):
        for step, parts in (("a[me] := me", 1), ("a[me] := a[1 - me]", 2), ("first a[0] := me", 3),
                            ("sum a[me] := 1 ; a[0] := 2", 3)):
            for crew in (bits_crew(1, bits=1), bits_crew(2, bits=0), Crew(2, (3, 3, 0), ((0, 1, 0),) * 3)):
                machine = Machine(program("lanes 3", "array a 3", f"step {step}"), crew)
                self.check(machine, (5, 6, 7), parts, 1)

    def test_most(self):
        machine = Machine(program(*ONE), bits_crew(1, bits=1))
        self.refuse(machine, (3, 4), 0)
        for most in (1, 2, 30, 1000):
            self.check(machine, (3, 4), 2, most)

    def test_by_name(self):
        machine = Machine(program(*ONE), bits_crew(1, bits=1))
        self.assertEqual(run_bounds(machine=machine, data=[3, 4], most=1), (12, 22))
        self.assertEqual(len(least_run(machine=machine, data=[3, 4], most=1)), 12)
        self.assertEqual(dearest_run(machine=machine, data=[3, 4], most=1), dearest_run(machine, (3, 4), most=9))
        for function in (run_bounds, dearest_run, least_run):
            with self.assertRaises(TypeError):
                function(machine, (3, 4), 5)


class SeveralSteps(WholeTests):
    def test_a_block_that_goes_round(self):
        for crew in (bits_crew(1, bits=1), Crew(2, (1, 2, 2), ((0, 1, 0), (1, 1, 1), (0, 0, 0)))):
            machine = Machine(program(*SEVERAL), crew)
            for begin, rounds in ((0, 3), (1, 2), (2, 1), (3, 1), (-4, 7), (100, 1)):
                self.check(machine, (begin, 0, 0, 0), 2 * rounds + 3 + 1, 30)

    def test_most(self):
        machine = Machine(program(*SEVERAL), bits_crew(1, bits=1))
        for most in range(5):
            self.refuse(machine, (0, 0, 0, 0), most)
        for most in (5, 6, 30, 1000):
            self.check(machine, (0, 0, 0, 0), 10, most)

    def test_a_block_within_a_block(self):
        lines = ("lanes 1", "array a 2", "do", "do", "step a[0] := a[0] + 1", "while a[0] mod 2",
                 "step a[1] := a[1] + 1", "while a[1] < 3")
        machine = Machine(program(*lines), bits_crew(1, bits=0))
        self.check(machine, (0, 0), 6 * 2 + 3 * 2, 9)
        self.refuse(machine, (0, 0), 8)

    def test_a_step_that_is_left_out_of_the_round(self):
        lines = ("lanes 1", "array a 1", "do", "step a[0] := a[0] - 1", "while a[0] > 0", "do", "step a[0] := 5",
                 "while a[0] = 4")
        machine = Machine(program(*lines), bits_crew(1, bits=1))
        self.check(machine, (3,), 3 * 2 + 1, 4)
        self.check(machine, (0,), 2 + 1, 2)

    def test_a_program_that_never_ends(self):
        machine = Machine(program("lanes 1", "array a 1", "do", "step a[0] := 1", "while 1"), bits_crew(1, bits=1))
        for most in (0, 1, 30):
            self.refuse(machine, (0,), most)
        check_raises(self, NotEnded, {"most": 1000}, run_bounds, machine, (0,), most=1000)


class Drawn(WholeTests):
    def test_drawn_runs(self):
        chance = random.Random(70)
        ended = refused = 0
        while ended < 15:
            machine = Machine(drawn_program(chance), drawn_crew(chance, height=chance.randint(1, 3)))
            data = drawn_data(chance, machine.program)
            steps, whole = plain_run(machine.program, data, most=6)
            if not whole:
                refused += 1
                self.refuse(machine, data, 6)
                continue
            ended += 1
            parts = sum(index == step for step, _ in steps for index, _ in machine.code)
            self.check(machine, data, parts, 6)
            self.check(machine, data, parts, len(steps))
            self.refuse(machine, data, len(steps) - 1)
        self.assertGreater(refused, 0)

    def test_every_bill_lies_between(self):
        chance = random.Random(69)
        tried = 0
        while tried < 20:
            machine = Machine(drawn_program(chance), drawn_crew(chance, height=chance.randint(1, 2)))
            data = drawn_data(chance, machine.program)
            if not plain_run(machine.program, data, most=8)[1]:
                continue
            tried += 1
            low, high = self.call(run_bounds, machine, data, 8)
            storm = drawn_storm(chance, machine.crew.workers, 300, chance.choice((0.1, 0.5, 0.9)))
            report = run_storm(machine, start_cells(machine, data), storm)
            if report.ended:
                self.assertGreaterEqual(report.bill, low)
            self.assertLessEqual(report.bill, high)
            report = run_storm(machine, start_cells(machine, data), calm_storm(machine.crew.workers, high))
            self.assertIs(report.ended, True)
            self.assertTrue(low <= report.bill <= high)


if __name__ == "__main__":
    unittest.main()
