"""Points 63 to 65: the bills and the calm ticks where every leaf needs the same number of turns."""

import random
import unittest

from drawing import drawn_crew
from helpers import program
from stillinstep.bills import dearest
from stillinstep.crews import bits_crew
from stillinstep.forms import bits_bill, calm_ticks, floor_bill
from stillinstep.machines import Machine, start_cells
from stillinstep.runs import run_storm
from stillinstep.storms import calm_storm
from stillinstep.walks import start_standing, walk_tick

HEIGHTS = (1, 2, 3, 4)
BITS = (0, 1, 2, 3, 4)


class FormTests(unittest.TestCase):
    def check(self, wanted, function, height, **named):
        value = function(height, **named)
        self.assertEqual((height, named, value), (height, named, wanted))
        self.assertIs(type(value), int)
        self.assertEqual(function(height=height, **named), value)
        names = sorted(named)
        with self.assertRaises(TypeError):
            function(height, *[named[name] for name in names])


class BitsBill(FormTests):
    def test_worked_by_hand(self):
        # One worker on two leaves: take, work, up, down, work, up, mark.
        self.check(7, bits_bill, 1, bits=0, work=1)
        self.check(11, bits_bill, 1, bits=1, work=1)
        self.check(2 * 11, bits_bill, 1, bits=2, work=1)
        self.check(8 * 11, bits_bill, 1, bits=4, work=1)
        self.check(37, bits_bill, 1, bits=0, work=16)
        self.check(553, bits_bill, 4, bits=4, work=1)
        self.check(1768, bits_bill, 4, bits=4, work=16)

    def test_dearest_of_the_crew_by_bits(self):
        for height in HEIGHTS:
            for bits in BITS:
                for work in (1, 2, 3, 9, 16):
                    crew = bits_crew(height, bits=bits)
                    self.check(dearest(crew, (work,) * crew.leaves), bits_bill, height, bits=bits, work=work)


class FloorBill(FormTests):
    def test_worked_by_hand(self):
        self.check(7, floor_bill, 1, workers=1, work=1)
        self.check(11, floor_bill, 1, workers=2, work=1)
        # H(1, 3) is 3 * 2 + 2 * 2 + 3 * 3 + 2.
        self.check(21 - 3, floor_bill, 1, workers=3, work=1)
        # H(2, 3) is H(1, 3) + H(1, 2) + 3 * 3 + 2, and H(1, 2) is 2 * 2 + 1 * 2 + 3 * 2 + 1.
        self.check(21 + 13 + 11 - 6, floor_bill, 2, workers=3, work=1)
        self.check(553, floor_bill, 4, workers=16, work=1)
        self.check(37, floor_bill, 1, workers=1, work=16)

    def test_no_crew_is_below_it(self):
        chance = random.Random(64)
        for height in HEIGHTS:
            for workers in range(1, 17):
                for work in (1, chance.randint(2, 16)):
                    floor = floor_bill(height, workers=workers, work=work)
                    self.assertIs(type(floor), int)
                    for _ in range(3):
                        crew = drawn_crew(chance, height, workers)
                        self.assertGreaterEqual(dearest(crew, (work,) * crew.leaves), floor)

    def test_the_crew_by_bits_has_just_this_bill(self):
        for height in HEIGHTS:
            for bits in BITS:
                for work in (1, 4, 16):
                    floor = floor_bill(height, workers=2 ** bits, work=work)
                    if bits >= height:
                        self.assertEqual(bits_bill(height, bits=bits, work=work), floor)
                    else:
                        self.assertGreaterEqual(bits_bill(height, bits=bits, work=work), floor)

    def test_with_fewer_workers_than_leaves_the_crew_by_bits_may_be_dearer(self):
        # H(2, 2) is 13 + 8 + 3 * 2 + 1.
        self.check(28 - 4, floor_bill, 2, workers=2, work=1)
        self.check(27, bits_bill, 2, bits=1, work=1)


class CalmTicks(FormTests):
    def test_worked_by_hand(self):
        self.check(7, calm_ticks, 1, bits=0, work=1)
        self.check(4, calm_ticks, 1, bits=1, work=1)
        self.check(4, calm_ticks, 1, bits=4, work=1)
        self.check(10, calm_ticks, 4, bits=4, work=1)
        self.check(37, calm_ticks, 1, bits=0, work=16)

    def test_calm_walks(self):
        for height in HEIGHTS:
            for bits in BITS:
                for work in (1, 2, 5, 16):
                    crew = bits_crew(height, bits=bits)
                    works = (work,) * crew.leaves
                    standing, ticks = start_standing(crew), 0
                    while not standing[0][1]:
                        standing = walk_tick(crew, works, standing, range(crew.workers))
                        ticks += 1
                    self.check(ticks, calm_ticks, height, bits=bits, work=work)

    def test_calm_runs_on_the_machine(self):
        for height, lanes in ((1, 2), (1, 6), (2, 4), (2, 12), (3, 8), (3, 16), (4, 16), (4, 32)):
            made = program(f"lanes {lanes}", f"array a {lanes}", "array b 1", "for i in 1 2",
                           "step a[me] := a[lanes - 1 - me]", "step sum b[0] := a[me] + i", "end")
            for bits in BITS:
                machine = Machine(made, bits_crew(height, bits=bits))
                work = lanes // 2 ** height
                self.assertEqual(machine.works, (work,) * 2 ** height)
                ticks = 10 * calm_ticks(height, bits=bits, work=work)
                cells = start_cells(machine, tuple(range(lanes)) + (0,))
                self.assertIs(run_storm(machine, cells, calm_storm(2 ** bits, ticks - 1)).ended, False)
                report = run_storm(machine, cells, calm_storm(2 ** bits, ticks))
                self.assertIs(report.ended, True)
                self.assertEqual(report.bill, ticks * 2 ** bits)
                self.assertEqual([tick for _, _, _, tick in report.parts],
                                 [(part + 1) * ticks // 10 - 1 for part in range(10)])


if __name__ == "__main__":
    unittest.main()
