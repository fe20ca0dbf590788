"""Point 45: the writes of the job of a lane, for each kind of part."""

import random
import unittest

from drawing import drawn_crew, drawn_data, drawn_program, drawn_storm
from helpers import check_plain, check_unchanged, program, region_of, with_region
from stillinstep.clipping import LIMIT, clip
from stillinstep.crews import bits_crew
from stillinstep.jobs import job_writes
from stillinstep.machines import REGIONS, Machine, start_cells
from stillinstep.plain import lane_wishes, writes_of
from stillinstep.ticks import each_tick

HEAD = ("lanes 3", "array a 3", "array b 2")
DATA = (10, 11, 12, 13, 14)


def machine(*lines, head=HEAD):
    """A machine of one worker for the program with these lines."""
    return Machine(program(*head, *lines), bits_crew(1, bits=0))


class JobTests(unittest.TestCase):
    def writes(self, found, code_index, lane, data=DATA, **regions):
        """The writes of a job, over start cells with these numbers in some regions."""
        cells = start_cells(found, data)
        for region, numbers in regions.items():
            self.assertEqual(len(numbers), len(region_of(cells, region)))
            cells = with_region(cells, region, numbers)
        writes = check_unchanged(self, job_writes, found, cells, code_index, lane)
        check_plain(self, writes)
        return writes


class Look(JobTests):
    def test_wishes(self):
        found = machine("step a[me] := a[me] + 1 ; b[me] := 0 - me")
        self.assertEqual(self.writes(found, 0, 0), (("look", 0, 0), ("look", 1, 11), ("look", 2, 3), ("look", 3, 0)))
        self.assertEqual(self.writes(found, 0, 1), (("look", 4, 1), ("look", 5, 12), ("look", 6, 4), ("look", 7, -1)))

    def test_a_wish_that_is_none(self):
        found = machine("step a[me] := a[me] + 1 when me ; b[me] := 0 - me")
        self.assertEqual(self.writes(found, 0, 0), (("look", 0, -1), ("look", 1, 0), ("look", 2, 3), ("look", 3, 0)))
        self.assertEqual(self.writes(found, 0, 2), (("look", 8, 2), ("look", 9, 13), ("look", 10, -1), ("look", 11, 0)))

    def test_fewer_assignments_than_slots(self):
        found = machine("step sum b[0] := me", "step first a[0] := 1 ; a[1] := 2 ; a[2] := 3")
        self.assertEqual(self.writes(found, 0, 1), (("look", 6, 3), ("look", 7, 1)))
        self.assertEqual(self.writes(found, 3, 1), (("look", 6, 0), ("look", 7, 1), ("look", 8, 1), ("look", 9, 2),
                                                    ("look", 10, 2), ("look", 11, 3)))

    def test_only_the_data_region_is_looked_at(self):
        found = machine("step a[me] := a[me]")
        self.assertEqual(self.writes(found, 0, 2, look=[7] * 6, vote=[8] * 6), (("look", 4, 2), ("look", 5, 12)))

    def test_a_value_at_the_limit(self):
        found = machine("step a[me] := a[0] * a[1]")
        self.assertEqual(self.writes(found, 0, 0, data=(LIMIT, -7, 0, 0, 0)), (("look", 0, 0), ("look", 1, -LIMIT)))


class Settle(JobTests):
    # Pairs of a cell and a value for lane 0, lane 1 and lane 2, two assignments each.
    LOOK = (3, 5, 4, 1) + (4, 7, 3, -2) + (3, 9, -1, 0)

    def check(self, rule, wanted, look=LOOK):
        found = machine(f"step {rule} a[me] := 1 ; b[me] := 2")
        for lane in (0, 1, 2):
            numbers = wanted[4 * lane:4 * lane + 4]
            writes = tuple(("vote", 4 * lane + at, number) for at, number in enumerate(numbers))
            self.assertEqual(self.writes(found, 1, lane, look=look), writes)

    def test_several_wishes_for_one_cell_under_each_rule(self):
        none = (-1, 0)
        for rule, three, four in (("first", 5, 1), ("sum", 12, 8), ("most", 9, 7), ("least", -2, 1)):
            self.check(rule, (3, three, 4, four, *none * 4))

    def test_two_wishes_of_one_lane(self):
        self.check("sum", (-1, 0, -1, 0, 2, 11, -1, 0, -1, 0, -1, 0), look=(-1, 0, -1, 0, 2, 5, 2, 6, -1, 0, -1, 0))
        self.check("first", (-1, 0, -1, 0, 2, 5, -1, 0, -1, 0, -1, 0), look=(-1, 0, -1, 0, 2, 5, 2, 6, -1, 0, -1, 0))

    def test_an_earlier_lane_comes_before_an_earlier_assignment(self):
        self.check("first", (-1, 0, 0, 8, -1, 0, -1, 0, -1, 0, -1, 0), look=(-1, 0, 0, 8, 0, 7, -1, 0, 0, 6, 0, 5))

    def test_no_wishes(self):
        for rule in ("first", "sum", "most", "least"):
            self.check(rule, (-1, 0) * 6, look=(-1, 0) * 6)

    def test_a_value_behind_a_cell_that_is_none(self):
        # A turn that was cut behind -1 leaves the old value there.
        for rule in ("first", "sum", "most", "least"):
            self.check(rule, (-1, 0) * 5 + (3, 8), look=(-1, 7, -1, -5, -1, 0, -1, 9, -1, 2, 3, 8))

    def test_one_wish_alone(self):
        for rule in ("first", "sum", "most", "least"):
            self.check(rule, (-1, 0) * 3 + (2, -9) + (-1, 0) * 2, look=(-1, 0) * 3 + (2, -9) + (-1, 0) * 2)

    def test_a_sum_is_clipped_once_at_the_end(self):
        look = (0, LIMIT, 0, LIMIT, 0, -LIMIT, 1, -LIMIT, 1, -1, -1, 0)
        self.check("sum", (0, LIMIT, -1, 0, -1, 0, 1, -LIMIT) + (-1, 0) * 2, look=look)
        look = (0, LIMIT, 0, 5, 0, -7, -1, 0, -1, 0, -1, 0)
        self.check("sum", (0, LIMIT - 2) + (-1, 0) * 5, look=look)

    def test_old_numbers_of_cells_do_not_count(self):
        found = machine("step sum a[0] := 1")
        self.assertEqual(self.writes(found, 1, 0, data=(100,) * 5, look=(0, 1) * 3, vote=(9,) * 6),
                         (("vote", 0, 0), ("vote", 1, 3)))

    def test_further_look_cells_are_not_looked_at(self):
        found = machine("step sum b[0] := me", "step first a[0] := 1 ; a[1] := 2 ; a[2] := 3")
        look = (3, 1, 3, 50, 3, 60) + (3, 2, 3, 70, 3, 80) + (3, 4, 3, 90, 4, 5)
        self.assertEqual(self.writes(found, 1, 0, look=look), (("vote", 0, 3), ("vote", 1, 7)))
        self.assertEqual(self.writes(found, 1, 1, look=look), (("vote", 6, -1), ("vote", 7, 0)))
        # The other step has three assignments, and all of its look cells count.
        self.assertEqual(self.writes(found, 4, 2, look=look)[4:], (("vote", 16, 4), ("vote", 17, 5)))

    def test_cells_as_they_are(self):
        # In first cells every lane seems to wish 0 for the cell 0.
        found = machine("step sum b[0] := me")
        self.assertEqual(self.writes(found, 1, 0), (("vote", 0, 0), ("vote", 1, 0)))
        self.assertEqual(self.writes(found, 1, 1), (("vote", 2, -1), ("vote", 3, 0)))


class Put(JobTests):
    def test_with_a_rule_by_the_vote_cells(self):
        found = machine("step sum a[me] := 1 ; b[me] := 2")
        vote = (0, 5, 3, 6) + (-1, 0, 4, 7) + (-1, 0, -1, 0)
        wanted = [(("data", 0, 5), ("data", 3, 6)), (("data", 4, 7),), ()]
        for lane in (0, 1, 2):
            self.assertEqual(self.writes(found, 2, lane, look=(1, 99) * 6, vote=vote), wanted[lane])

    def test_without_a_rule_by_the_look_cells(self):
        found = machine("step a[me] := a[0] ; b[me] := 2")
        look = (0, 5, 3, 6) + (-1, 0, 4, 7) + (-1, 0, -1, 0)
        wanted = [(("data", 0, 5), ("data", 3, 6)), (("data", 4, 7),), ()]
        for lane in (0, 1, 2):
            self.assertEqual(self.writes(found, 1, lane, look=look, vote=(1, 99) * 6), wanted[lane])

    def test_a_cell_whose_number_does_not_change(self):
        found = machine("step a[me] := a[me]")
        self.assertEqual(self.writes(found, 1, 1, look=(0, 10, 1, 11, 2, 12)), (("data", 1, 11),))
        found = machine("step first a[me] := 1")
        self.assertEqual(self.writes(found, 2, 1, vote=(0, 10, 1, 11, 2, 12)), (("data", 1, 11),))

    def test_further_cells_are_not_looked_at(self):
        found = machine("step sum b[0] := me", "step first a[0] := 1 ; a[1] := 2 ; a[2] := 3")
        vote = (3, 1, 3, 50, 3, 60) * 3
        self.assertEqual(self.writes(found, 2, 1, vote=vote), (("data", 3, 1),))
        self.assertEqual(self.writes(found, 5, 1, vote=vote), (("data", 3, 1), ("data", 3, 50), ("data", 3, 60)))

    def test_cells_as_they_are(self):
        found = machine("step a[me] := a[0]")
        self.assertEqual(self.writes(found, 1, 2), (("data", 0, 0),))


class Direct(JobTests):
    def test_wishes(self):
        found = machine("step a[me] := b[1] + me ; c[2 - me] := b[me] when me", head=(*HEAD, "array c 2"))
        data = (*DATA, 0, 0)
        self.assertEqual(found.code, ((0, "direct"),))
        self.assertEqual(self.writes(found, 0, 0, data=data), (("data", 0, 14),))
        self.assertEqual(self.writes(found, 0, 1, data=data), (("data", 1, 15), ("data", 6, 14)))
        self.assertEqual(self.writes(found, 0, 2, data=data), (("data", 2, 16), ("data", 5, 0)))

    def test_no_wishes(self):
        found = machine("step a[me + 3] := 1 ; b[me] := 2 when 0")
        for lane in (0, 1, 2):
            self.assertEqual(self.writes(found, 0, lane), ())

    def test_a_cell_whose_number_does_not_change(self):
        self.assertEqual(self.writes(machine("step a[me] := 11"), 0, 1), (("data", 1, 11),))

    def test_look_and_vote_cells_do_not_count(self):
        found = machine("step a[me] := 1")
        self.assertEqual(self.writes(found, 0, 0, look=(2, 9) * 3, vote=(2, 9) * 3), (("data", 0, 1),))

    def test_numbers_of_for_blocks(self):
        found = machine("for i in 5 7", "step a[me] := i", "end")
        self.assertEqual((self.writes(found, 0, 2), self.writes(found, 1, 2)), ((("data", 2, 5),), (("data", 2, 7),)))


class AllKinds(JobTests):
    def test_by_name(self):
        found = machine("step a[me] := 1")
        cells = start_cells(found, DATA)
        self.assertEqual(job_writes(machine=found, cells=cells, code_index=0, lane=1), (("data", 1, 1),))

    def wanted(self, found, cells, code_index, lane):
        """What point 45 tells, put together in another way."""
        index, kind = found.code[code_index]
        rule, assignments, _ = found.steps[index]
        many, data = len(assignments), region_of(cells, "data")
        at = [2 * (lane * found.slots + number) for number in range(many)]
        if kind in ("look", "direct"):
            wishes = lane_wishes(found.program, index, data, lane)
            if kind == "direct":
                return tuple(("data", *wish) for wish in wishes if wish)
            pairs = [wish or (-1, 0) for wish in wishes]
            return tuple(("look", at[k] + i, pairs[k][i]) for k in range(many) for i in (0, 1))
        if kind == "put":
            numbers = region_of(cells, "vote" if rule else "look")
            return tuple(("data", numbers[k], numbers[k + 1]) for k in at if numbers[k] != -1)
        look = region_of(cells, "look")
        order = [2 * (j * found.slots + number) for j in range(found.program.lanes) for number in range(many)]
        writes = []
        for k in at:
            same = [i for i in order if look[i] == look[k]]
            values = [look[i + 1] for i in same]
            number = {"first": values[0], "sum": clip(sum(values)), "most": max(values), "least": min(values)}[rule]
            pair = (look[k], number) if look[k] != -1 and same[0] == k else (-1, 0)
            writes += [("vote", k, pair[0]), ("vote", k + 1, pair[1])]
        return tuple(writes)

    def test_drawn_cells(self):
        chance = random.Random(45)
        kinds = set()
        for _ in range(60):
            found = Machine(drawn_program(chance), drawn_crew(chance))
            cells = start_cells(found, drawn_data(chance, found.program))
            for cells in each_tick(found, cells, drawn_storm(chance, found.crew.workers, chance.randint(0, 60), 0.8)):
                pass
            for region in ("look", "vote"):
                if chance.random() < 0.5:
                    some = [(-1, 0), *[(cell, chance.randint(-9, 9)) for cell in range(len(cells[0]))]]
                    pairs = [chance.choice(some) for _ in range(found.slots * found.program.lanes)]
                    cells = with_region(cells, region, [number for pair in pairs for number in pair])
            for code_index, (_, kind) in enumerate(found.code):
                lane = chance.randrange(found.program.lanes)
                writes = check_unchanged(self, job_writes, found, cells, code_index, lane)
                self.assertEqual(writes, self.wanted(found, cells, code_index, lane))
                check_plain(self, writes)
                self.assertLessEqual(len(writes), 6)
                self.assertTrue(all(region in REGIONS for region, _, _ in writes))
                kinds.add(kind)
        self.assertEqual(kinds, {"look", "settle", "put", "direct"})

    def test_the_parts_of_a_step_one_after_the_other(self):
        # All lanes of each part, performed by hand: what is put is what the step writes.
        chance = random.Random(46)
        for _ in range(60):
            found = Machine(drawn_program(chance), bits_crew(1, bits=0))
            data = drawn_data(chance, found.program)
            index = chance.randrange(len(found.steps))
            cells = [list(region) for region in start_cells(found, data)]
            for code_index, (at, kind) in enumerate(found.code):
                if at == index:
                    now = tuple(tuple(region) for region in cells)
                    for lane in range(found.program.lanes):
                        for region, place, value in job_writes(found, now, code_index, lane):
                            cells[REGIONS.index(region)][place] = value
            wanted = list(data)
            for cell, value in writes_of(found.program, index, data):
                wanted[cell] = value
            self.assertEqual(cells[0], wanted)


if __name__ == "__main__":
    unittest.main()
