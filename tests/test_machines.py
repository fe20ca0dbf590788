"""Points 40 to 42: machines and their cells."""

import random
import unittest

from drawing import drawn_crew, drawn_data, drawn_program, drawn_storm
from helpers import check_plain, check_unchanged, program
from stillinstep.crews import Crew, bits_crew
from stillinstep.flat import flat_steps
from stillinstep.machines import REGIONS, Machine, current_part, has_ended, jobs_at, start_cells
from stillinstep.parts import code_of
from stillinstep.runs import run_storm
from stillinstep.storms import calm_storm

DIRECT = "step a[me] := 1"


def machine(lanes, height, *lines, bits=0):
    """A machine for a program with these lines behind its arrays a and b."""
    made = program(f"lanes {lanes}", "array a 4", "array b 2", *(lines or (DIRECT,)))
    return Machine(made, bits_crew(height, bits=bits))


class Fields(unittest.TestCase):
    def test_fields(self):
        made = program("lanes 3", "array a 4", "step sum a[0] := me", "do", "step a[me] := a[me + 1]", "while a[0]",
                       DIRECT)
        crew = Crew(1, [1, 0], [[0], [1]])
        found = check_unchanged(self, Machine, made, crew)
        self.assertEqual((found.program, found.crew), (made, crew))
        self.assertEqual(found.code, ((0, "look"), (0, "settle"), (0, "put"), (1, "look"), (1, "put"), (2, "direct")))
        self.assertEqual(found.steps, flat_steps(made))
        self.assertEqual((found.slots, found.works), (1, (2, 1)))
        for value in (found.code, found.steps, found.slots, found.works):
            check_plain(self, value)
        self.assertEqual(Machine(crew=crew, program=made).code, found.code)

    def test_code_and_steps_of_drawn_programs(self):
        chance = random.Random(40)
        for _ in range(60):
            made = drawn_program(chance)
            found = Machine(made, drawn_crew(chance))
            self.assertEqual((found.code, found.steps), (code_of(made), flat_steps(made)))
            self.assertEqual(found.slots, max(len(assignments) for _, assignments, _ in found.steps))

    def test_slots(self):
        two = "step a[me] := 1 ; b[me] := 2"
        three = "step first a[me] := 1 ; b[me] := 2 ; a[0] := 3"
        for lines, slots in (([DIRECT], 1), ([DIRECT, two, DIRECT], 2), ([two], 2), ([three, two, DIRECT], 3)):
            self.assertEqual(machine(2, 1, *lines).slots, slots)


class Jobs(unittest.TestCase):
    def check(self, lanes, height, jobs, works):
        found = machine(lanes, height)
        with self.subTest((lanes, height)):
            self.assertEqual([check_unchanged(self, jobs_at, found, leaf) for leaf in range(2 ** height)], jobs)
            check_plain(self, tuple(jobs_at(found, leaf) for leaf in range(2 ** height)))
            self.assertEqual(found.works, works)
            check_plain(self, found.works)

    def test_fewer_lanes_than_leaves(self):
        self.check(1, 1, [(0,), ()], (1, 1))
        self.check(3, 2, [(0,), (1,), (2,), ()], (1, 1, 1, 1))
        self.check(1, 3, [(0,)] + [()] * 7, (1,) * 8)

    def test_as_many_lanes_as_leaves(self):
        self.check(4, 2, [(0,), (1,), (2,), (3,)], (1, 1, 1, 1))

    def test_more_lanes_than_leaves(self):
        self.check(7, 1, [(0, 2, 4, 6), (1, 3, 5)], (4, 3))
        self.check(6, 2, [(0, 4), (1, 5), (2,), (3,)], (2, 2, 1, 1))
        self.check(32, 1, [tuple(range(0, 32, 2)), tuple(range(1, 32, 2))], (16, 16))
        self.check(32, 4, [(leaf, leaf + 16) for leaf in range(16)], (2,) * 16)
        self.check(17, 4, [(0, 16)] + [(leaf,) for leaf in range(1, 16)], (2,) + (1,) * 15)

    def test_every_lane_is_one_job(self):
        for lanes in range(1, 33):
            for height in (1, 2, 3, 4):
                found = machine(lanes, height)
                jobs = [jobs_at(found, leaf) for leaf in range(2 ** height)]
                self.assertEqual(sorted(lane for row in jobs for lane in row), list(range(lanes)))
                self.assertEqual(found.works, tuple(max(1, len(row)) for row in jobs))

    def test_by_name(self):
        self.assertEqual(jobs_at(machine=machine(4, 1), leaf=1), (1, 3))


class Cells(unittest.TestCase):
    def test_regions(self):
        self.assertEqual(REGIONS, ("data", "look", "vote", "mark", "count", "stamp", "node", "taken", "coming"))
        self.assertIs(type(REGIONS), tuple)

    def check(self, found, data):
        lanes, leaves, workers = found.program.lanes, 2 ** found.crew.height, len(found.crew.seats)
        pairs = 2 * found.slots * lanes
        zeros = [(0,) * many for many in (pairs, pairs, 2 * leaves, leaves, leaves, workers, workers, 2)]
        for passed in (tuple(data), list(data)):
            cells = check_unchanged(self, start_cells, found, passed)
            self.assertEqual(cells, (tuple(data), *zeros))
            check_plain(self, cells)

    def test_start_cells(self):
        self.check(machine(2, 1, bits=1), (3, 4, -5, 0, 7, 10 ** 12))
        self.check(machine(32, 4, bits=4), (0,) * 6)
        self.check(machine(5, 3, "step first a[0] := 1 ; b[0] := 2 ; a[1] := 3", bits=2), (1, 2, 3, 4, 5, 6))

    def test_lengths_worked_by_hand(self):
        found = machine(5, 3, DIRECT, "step first a[0] := 1 ; b[0] := 2 ; a[1] := 3", bits=2)
        self.assertEqual([len(region) for region in start_cells(found, [0] * 6)], [6, 30, 30, 16, 8, 8, 4, 4, 2])

    def test_start_cells_of_drawn_machines(self):
        chance = random.Random(41)
        for _ in range(40):
            found = Machine(drawn_program(chance), drawn_crew(chance))
            self.check(found, drawn_data(chance, found.program))

    def test_a_list_that_is_changed_afterwards(self):
        data = [1] * 6
        cells = start_cells(machine(2, 1), data)
        data[0] = 5
        self.assertEqual(cells[0], (1,) * 6)

    def test_by_name(self):
        found = machine(2, 1)
        self.assertEqual(start_cells(machine=found, data=[0] * 6), start_cells(found, (0,) * 6))


class Parts(unittest.TestCase):
    def test_the_first_part(self):
        found = machine(2, 1)
        cells = start_cells(found, (0,) * 6)
        self.assertEqual(check_unchanged(self, current_part, cells), (1, 0))
        check_plain(self, current_part(cells))
        self.assertIs(check_unchanged(self, has_ended, found, cells), False)

    def test_the_end_of_a_program(self):
        # One worker, two leaves, one part: take, work, up, down, work, up, mark.
        found = machine(2, 1)
        cells = start_cells(found, (0,) * 6)
        before = run_storm(found, cells, calm_storm(1, 6)).cells
        behind = run_storm(found, cells, calm_storm(1, 7)).cells
        self.assertEqual((current_part(before), has_ended(found, before)), ((1, 0), False))
        self.assertEqual((current_part(behind), has_ended(found, behind)), ((2, 1), True))
        self.assertIs(has_ended(found, before), False)
        self.assertIs(has_ended(found, behind), True)

    def test_each_part_of_a_run(self):
        found = machine(1, 1, "do", "step sum a[0] := a[0] + 1", "step a[me] := a[me]", "while a[0] < 2", DIRECT)
        cells = start_cells(found, (0,) * 6)
        wanted = [0, 1, 2, 3, 4, 0, 1, 2, 3, 4, 5, 6]
        for part, code_index in enumerate(wanted, start=1):
            self.assertEqual(current_part(cells), (part, code_index))
            self.assertIs(has_ended(found, cells), part == 12)
            cells = run_storm(found, cells, calm_storm(1, 7)).cells
        self.assertEqual(current_part(cells), (12, 6))

    def test_coming_goes_by_the_number_of_the_part(self):
        # Made by hand from cells of a run: mark[1] alone decides which of the two numbers holds.
        found = machine(2, 1, "step sum a[0] := 1")
        cells = list(start_cells(found, (0,) * 6))
        cells[REGIONS.index("coming")] = (2, 1)
        for last, wanted in ((0, (1, 1)), (1, (2, 2)), (2, (3, 1)), (7, (8, 2))):
            cells[REGIONS.index("mark")] = (9, last, 9, 9)
            self.assertEqual(current_part(tuple(cells)), wanted)

    def test_has_ended_in_drawn_runs(self):
        chance = random.Random(42)
        for _ in range(20):
            found = Machine(drawn_program(chance), drawn_crew(chance, height=1))
            report = run_storm(found, start_cells(found, drawn_data(chance, found.program)),
                               drawn_storm(chance, found.crew.workers, 150, 0.9))
            ended = check_unchanged(self, has_ended, found, report.cells)
            self.assertIs(ended, current_part(report.cells)[1] == len(found.code))
            self.assertIs(report.ended, ended)

    def test_by_name(self):
        found = machine(2, 1)
        cells = start_cells(found, [0] * 6)
        self.assertEqual((current_part(cells=cells), has_ended(machine=found, cells=cells)), ((1, 0), False))


if __name__ == "__main__":
    unittest.main()
