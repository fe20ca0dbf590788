"""Points 49 to 53: ticks, standings, and the memory while a part is performed."""

import inspect
import random
import unittest
from itertools import permutations

from drawing import SIGNS, drawn_crew, drawn_data, drawn_program, drawn_storm, drawn_word
from helpers import check_plain, check_raises, check_unchanged, program, region_of, with_region
from stillinstep.crews import Crew, bits_crew
from stillinstep.errors import BadStorm, Disagree
from stillinstep.machines import REGIONS, Machine, current_part, has_ended, start_cells
from stillinstep.plain import after_step
from stillinstep.runs import run_storm
from stillinstep.storms import calm_storm, finishers, made_writes
from stillinstep.ticks import after_tick, each_tick, merged, standing_of
from stillinstep.turns import turn_of
from stillinstep.walks import start_standing, walk_tick

TEXT = ("lanes 2", "array a 2", "step a[me] := a[me] + a[1 - me]")


def example():
    """The machine of the worked examples and its first cells."""
    machine = Machine(program(*TEXT), bits_crew(1, bits=1))
    return machine, start_cells(machine, (3, 4))


def drawn_machine(chance):
    """A machine and first cells."""
    machine = Machine(drawn_program(chance), drawn_crew(chance))
    return machine, start_cells(machine, drawn_data(chance, machine.program))


class Merging(unittest.TestCase):
    def check(self, rows, wanted):
        for kind in (tuple, list):
            found = check_unchanged(self, merged, kind([kind(row) for row in rows]))
            self.assertEqual(found, tuple(wanted))
            check_plain(self, found)

    def refuse(self, rows, region, index):
        for order in permutations(rows):
            for kind in (tuple, list):
                passed = kind([kind(row) for row in order])
                check_raises(self, Disagree, {"region": region, "index": index}, merged, passed)

    def test_no_writes(self):
        self.check([], [])
        self.check([[]], [])
        self.check([[], [], []], [])

    def test_order_of_regions_and_indices(self):
        row = [(region, index, 10 * at + index) for at, region in enumerate(REGIONS) for index in (0, 1, 2, 9, 10)]
        self.check([row], row)
        self.check([row[::-1]], row)
        chance = random.Random(49)
        for _ in range(20):
            mixed = chance.sample(row, len(row))
            self.check([mixed], row)
            self.check([mixed[:9], [], mixed[9:20], mixed[20:]], row)

    def test_the_same_value_from_several_workers(self):
        self.check([[("mark", 3, 1)], [("mark", 3, 1)]], [("mark", 3, 1)])
        self.check([[("data", 1, 5), ("mark", 3, 1)], [("data", 1, 5)], [("data", 0, 5), ("data", 1, 5)]],
                   [("data", 0, 5), ("data", 1, 5), ("mark", 3, 1)])

    def test_one_worker_writes_a_cell_several_times(self):
        self.check([[("data", 0, 1), ("data", 0, 2), ("data", 1, 9), ("data", 0, 3)]], [("data", 0, 3), ("data", 1, 9)])
        # Only the last value of each worker counts, also against the others.
        self.check([[("data", 0, 1), ("data", 0, 3)], [("data", 0, 2), ("data", 0, 3)], [("data", 0, 3)]],
                   [("data", 0, 3)])
        self.refuse([[("data", 0, 3), ("data", 0, 1)], [("data", 0, 2), ("data", 0, 3)]], "data", 0)
        self.refuse([[("data", 0, 3), ("data", 0, 1)], [("data", 0, 3)]], "data", 0)

    def test_different_values(self):
        self.refuse([[("look", 4, 1)], [("look", 4, 2)]], "look", 4)
        self.refuse([[("look", 4, 0)], [("look", 4, -1)]], "look", 4)
        self.refuse([[("look", 4, 1)], [("look", 4, 1)], [("look", 4, 2)]], "look", 4)
        self.refuse([[("coming", 1, 7)], [], [("coming", 1, 6)]], "coming", 1)

    def test_the_first_of_several_cells(self):
        self.refuse([[("taken", 0, 1), ("mark", 9, 1), ("mark", 10, 1)],
                     [("taken", 0, 2), ("mark", 10, 2), ("mark", 9, 2)]], "mark", 9)
        self.refuse([[("coming", 0, 1), ("vote", 5, 1)], [("vote", 5, 2)], [("coming", 0, 2), ("data", 7, 0)]],
                    "vote", 5)
        self.refuse([[("node", 3, 1), ("data", 8, 1)], [("node", 3, 2)], [("data", 8, 4)]], "data", 8)
        self.refuse([[("count", 1, 1), ("count", 0, 1), ("stamp", 0, 1)], [("count", 1, 2)], [("stamp", 0, 2)]],
                    "count", 1)

    def test_same_index_in_different_regions(self):
        self.check([[("look", 0, 1)], [("vote", 0, 2)], [("data", 0, 3)]],
                   [("data", 0, 3), ("look", 0, 1), ("vote", 0, 2)])

    def test_by_name(self):
        self.assertEqual(merged(rows=[[("data", 0, 1)]]), (("data", 0, 1),))


class Ticks(unittest.TestCase):
    def after(self, machine, cells, word):
        found = check_unchanged(self, after_tick, machine, cells, word)
        check_plain(self, found)
        self.assertEqual([len(region) for region in found], [len(region) for region in cells])
        return found

    def test_words_that_do_not_fit(self):
        machine, cells = example()
        for word in ("", "+", "+++", "+x", " +", "+ ", "x-"):
            check_raises(self, BadStorm, {"tick": 0}, after_tick, machine, cells, word)
        ended = run_storm(machine, cells, calm_storm(2, 8)).cells
        self.assertTrue(has_ended(machine, ended))
        for word in ("+", "+++", "+x"):
            check_raises(self, BadStorm, {"tick": 0}, after_tick, machine, ended, word)

    def test_worked_by_hand(self):
        machine, cells = example()
        cells = self.after(machine, cells, "++")
        self.assertEqual(cells[6:8], ((2, 3), (1, 1)))
        cells = self.after(machine, cells, "+1")
        self.assertEqual(cells, ((3, 4), (0, 7, 1, 0), (0, 0, 0, 0), (0, 0, 1, 0), (0, 0), (0, 0), (2, 3), (1, 1),
                                 (0, 0)))

    def test_what_is_written_before_a_cut(self):
        machine = Machine(program("lanes 4", "array a 4", "step a[me] := a[3 - me]"), bits_crew(1, bits=0))
        first = start_cells(machine, (5, 6, 7, 8))
        # take: node, taken; work: two look cells, count, stamp.
        self.assertEqual(self.after(machine, first, "0"), first)
        for sign in "123456789":
            self.assertEqual(self.after(machine, first, sign), with_region(first, "node", (2,)))
        taken = self.after(machine, first, "+")
        wanted = [taken, with_region(taken, "look", (0, 0, 0, 0, 0, 0, 0, 0))]
        wanted.append(with_region(taken, "look", (0, 8, 0, 0, 0, 0, 0, 0)))
        wanted.append(with_region(wanted[2], "count", (1, 0)))
        for digit in range(10):
            self.assertEqual(self.after(machine, taken, str(digit)), wanted[min(digit, 3)])
        self.assertEqual(self.after(machine, taken, "+"), with_region(wanted[3], "stamp", (1, 0)))
        self.assertEqual(self.after(machine, taken, "-"), taken)

    def test_a_cut_last_mark(self):
        machine = Machine(program("lanes 1", "array a 1", "step a[0] := 1", "step a[0] := 2"), bits_crew(1, bits=0))
        cells = start_cells(machine, (0,))
        for _ in range(6):
            cells = self.after(machine, cells, "+")
        self.assertEqual(turn_of(machine, cells, 0), ("mark", (("coming", 0, 1), ("mark", 1, 1))))
        for sign in "123456789":
            self.assertEqual(self.after(machine, cells, sign), with_region(cells, "coming", (1, 0)))
        self.assertEqual(self.after(machine, cells, "0"), cells)

    def test_all_signs_at_once(self):
        chance = random.Random(50)
        for _ in range(30):
            machine = Machine(drawn_program(chance), drawn_crew(chance, workers=16))
            cells = start_cells(machine, drawn_data(chance, machine.program))
            storm = [drawn_word(chance, 16, 0.7) for _ in range(chance.randint(0, 40))]
            for cells in each_tick(machine, cells, storm):
                pass
            signs = chance.sample(SIGNS, 12) + ["+", "+", "-", "3"]
            word = "".join(chance.sample(signs, 16))
            wanted = [list(region) for region in cells]
            for worker, sign in enumerate(word):
                for region, index, value in made_writes(turn_of(machine, cells, worker)[1], sign):
                    wanted[REGIONS.index(region)][index] = value
            self.assertEqual(self.after(machine, cells, word), tuple(tuple(region) for region in wanted))

    def test_nothing_changes_when_the_program_has_ended(self):
        machine, cells = example()
        ended = run_storm(machine, cells, calm_storm(2, 8)).cells
        for word in ("++", "--", "+-", "19", "00"):
            self.assertEqual(self.after(machine, ended, word), ended)

    def test_by_name(self):
        machine, cells = example()
        self.assertEqual(after_tick(machine=machine, cells=cells, word="--"), cells)
        self.assertEqual(list(each_tick(machine=machine, cells=cells, storm=["--"])), [cells])
        self.assertEqual(standing_of(machine=machine, cells=cells), (1, 0, start_standing(machine.crew)))


class EachTick(unittest.TestCase):
    def test_a_generator(self):
        machine, cells = example()
        found = each_tick(machine, cells, ("++", "+-"))
        self.assertTrue(inspect.isgenerator(found))
        first = next(found)
        self.assertEqual(first, after_tick(machine, cells, "++"))
        self.assertEqual(next(found), after_tick(machine, first, "+-"))
        self.assertEqual(list(found), [])
        self.assertEqual(list(each_tick(machine, cells, [])), [])

    def test_cells_behind_each_word(self):
        chance = random.Random(501)
        for _ in range(30):
            machine, cells = drawn_machine(chance)
            storm = drawn_storm(chance, machine.crew.workers, 30)
            found = list(each_tick(machine, cells, list(storm)))
            self.assertEqual(len(found), 30)
            now = cells
            for word, behind in zip(storm, found):
                now = after_tick(machine, now, word)
                self.assertEqual(behind, now)
                check_plain(self, behind)

    def test_gone_on_with_from_the_cells_alone(self):
        chance = random.Random(502)
        for _ in range(30):
            machine, cells = drawn_machine(chance)
            storm = drawn_storm(chance, machine.crew.workers, 40)
            whole = list(each_tick(machine, cells, storm))
            at = chance.randrange(40)
            # Another machine of an equal program and an equal crew, and nothing but the cells.
            crew = machine.crew
            other = Machine(machine.program, Crew(crew.height, list(crew.seats), list(crew.leanings)))
            self.assertEqual(list(each_tick(other, whole[at], storm[at + 1:])), whole[at + 1:])

    def test_two_runs_beside_one_another(self):
        chance = random.Random(503)
        for _ in range(20):
            machine, cells = drawn_machine(chance)
            storms = [drawn_storm(chance, machine.crew.workers, 30) for _ in range(2)]
            alone = [list(each_tick(machine, cells, storm)) for storm in storms]
            runs = [each_tick(machine, cells, storm) for storm in storms]
            beside = [[], []]
            for _ in range(30):
                for at in (0, 1):
                    beside[at].append(next(runs[at]))
            self.assertEqual(beside, alone)

    def test_a_worker_that_finishes_no_turn(self):
        chance = random.Random(504)
        for _ in range(30):
            machine, cells = drawn_machine(chance)
            worker = chance.randrange(machine.crew.workers)
            storm = [list(word) for word in drawn_storm(chance, machine.crew.workers, 60, 0.8)]
            for word in storm:
                word[worker] = chance.choice(SIGNS[1:])
            asleep = ["".join(word[:worker] + ["-"] + word[worker + 1:]) for word in storm]
            awake = ["".join(word) for word in storm]
            for left, right in zip(each_tick(machine, cells, awake), each_tick(machine, cells, asleep)):
                nodes = list(region_of(left, "node"))
                self.assertIn(nodes[worker], (0, machine.crew.leaves + machine.crew.seats[worker]))
                nodes[worker] = 0
                self.assertEqual(with_region(left, "node", nodes), right)


class Standings(unittest.TestCase):
    def test_worked_by_hand(self):
        machine, cells = example()
        self.assertEqual(standing_of(machine, cells), (1, 0, ((0, 0, 0, 0), (0, 0), (0, 0))))
        for cells in each_tick(machine, cells, ("++", "+1", "+-")):
            pass
        found = check_unchanged(self, standing_of, machine, cells)
        self.assertEqual(found, (1, 0, ((0, 0, 1, 0), (1, 0), (1, 3))))
        check_plain(self, found)

    def test_counts_and_stamps(self):
        machine = Machine(program("lanes 6", "array a 6", "step a[me] := a[me]"), bits_crew(1, bits=0))
        cells = start_cells(machine, (0,) * 6)
        seen = [standing_of(machine, now)[2] for now in each_tick(machine, cells, calm_storm(1, 5))]
        self.assertEqual(seen, [((0, 0, 0, 0), (0, 0), (2,)), ((0, 0, 0, 0), (1, 0), (2,)),
                                ((0, 0, 0, 0), (2, 0), (2,)), ((0, 0, 1, 0), (3, 0), (2,)),
                                ((0, 0, 1, 0), (3, 0), (1,))])

    def test_numbers_of_another_part_do_not_count(self):
        machine = Machine(program("lanes 6", "array a 6", "step a[me] := a[me]"), bits_crew(1, bits=0))
        cells = start_cells(machine, (0,) * 6)
        cells = with_region(with_region(cells, "mark", (0, 4, 5, 4)), "count", (2, 2))
        cells = with_region(with_region(cells, "stamp", (4, 5)), "node", (3,))
        self.assertEqual(standing_of(machine, cells), (5, 0, ((0, 0, 1, 0), (3, 2), (0,))))
        cells = with_region(cells, "taken", (5,))
        self.assertEqual(standing_of(machine, cells), (5, 0, ((0, 0, 1, 0), (3, 2), (3,))))

    def test_an_ended_program(self):
        machine, cells = example()
        ended = run_storm(machine, cells, calm_storm(2, 8)).cells
        self.assertEqual(standing_of(machine, ended), (3, 2, start_standing(machine.crew)))


class SideBySide(unittest.TestCase):
    """Points 52 and 53, through whole runs with drawn storms."""

    def runs(self, seed, many=30, ticks=400):
        """For each tick: the machine, the cells before it, its word, the cells behind it."""
        chance = random.Random(seed)
        for _ in range(many):
            machine, cells = drawn_machine(chance)
            storm = drawn_storm(chance, machine.crew.workers, ticks, chance.choice((0.3, 0.8, 1)))
            before = [cells, *each_tick(machine, cells, storm)]
            yield machine, list(zip(before, storm, before[1:]))

    def test_the_standing_goes_as_the_walk_goes(self):
        parts = 0
        for machine, run in self.runs(52):
            crew, works = machine.crew, machine.works
            for before, word, behind in run:
                if has_ended(machine, before):
                    self.assertEqual(before, behind)
                    continue
                part, code_index, standing = standing_of(machine, before)
                check_plain(self, (part, code_index, standing))
                after = walk_tick(crew, works, standing, finishers(word))
                if not after[0][1]:
                    self.assertEqual(standing_of(machine, behind), (part, code_index, after))
                else:
                    parts += 1
                    part_now, _, standing_now = standing_of(machine, behind)
                    self.assertEqual((part_now, standing_now), (part + 1, start_standing(crew)))
        self.assertGreater(parts, 100)

    def test_what_is_cut_changes_nothing_of_the_standing(self):
        chance = random.Random(521)
        for machine, run in self.runs(522, many=15, ticks=60):
            for before, _, _ in run:
                word = "".join(chance.choice(SIGNS[1:]) for _ in range(machine.crew.workers))
                self.assertEqual(standing_of(machine, after_tick(machine, before, word)), standing_of(machine, before))

    def test_cuts_behind_each_number_of_writes(self):
        for machine, run in self.runs(523, many=10, ticks=30):
            for before, _, _ in run:
                for digit in "0123456789":
                    cut = after_tick(machine, before, digit * machine.crew.workers)
                    self.assertEqual(standing_of(machine, cut), standing_of(machine, before))

    def test_the_memory_while_a_part_is_performed(self):
        kinds, changed = set(), 0
        for machine, run in self.runs(53):
            memory = run[0][0][0]
            for before, _, behind in run:
                if has_ended(machine, before):
                    self.assertEqual(before[0], memory)
                    continue
                part, code_index = current_part(before)
                index, kind = machine.code[code_index]
                goal = after_step(machine.program, index, memory)
                for cells in (before, behind):
                    if kind in ("look", "settle"):
                        self.assertEqual(cells[0], memory)
                    else:
                        self.assertTrue(all(cell in pair for cell, *pair in zip(cells[0], memory, goal)))
                        changed += memory != cells[0] != goal
                kinds.add(kind)
                is_last = machine.code[code_index + 1:code_index + 2] == () or machine.code[code_index + 1][0] != index
                if current_part(behind)[0] != part and is_last:
                    self.assertEqual(behind[0], goal)
                    memory = goal
        self.assertEqual(kinds, {"look", "settle", "put", "direct"})
        self.assertGreater(changed, 50)


if __name__ == "__main__":
    unittest.main()
