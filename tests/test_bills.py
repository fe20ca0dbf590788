"""Points 57 to 61: the dearest bill of a part and the storms that reach it."""

import random
import time
import unittest

from drawing import drawn_crew, drawn_data, drawn_program, drawn_standings, drawn_storm, drawn_tick, drawn_works
from helpers import check_plain, check_raises, check_unchanged, program
from searching import all_bills, all_ticks
from stillinstep.bills import dearest, dearest_storm, tick_choice
from stillinstep.crews import Crew, bits_crew
from stillinstep.errors import PartOver
from stillinstep.machines import Machine, start_cells
from stillinstep.runs import run_storm
from stillinstep.storms import check_storm, finishers
from stillinstep.ticks import each_tick, standing_of
from stillinstep.walks import start_standing, walk_tick, walk_turn


class BillTests(unittest.TestCase):
    """Calls with works as a tuple and as a list, and looks at what is returned."""

    def call(self, function, crew, works, *more, **named):
        results = [check_unchanged(self, function, crew, kind(works), *more, **named) for kind in (tuple, list)]
        self.assertEqual(results[0], results[1])
        check_plain(self, results[0])
        return results[0]

    def check_choice(self, crew, works, standing):
        """Looks at a tick that loses nothing; returns it."""
        row = self.call(tick_choice, crew, works, standing)
        self.assertIs(type(row), tuple)
        self.assertNotEqual(row, ())
        self.assertEqual(row, tuple(sorted(set(row))))
        self.assertTrue(all(0 <= worker < crew.workers for worker in row))
        behind = walk_tick(crew, works, standing, row)
        self.assertEqual(dearest(crew, works, standing=standing), len(row) + dearest(crew, works, standing=behind))
        return row

    def check_storm(self, crew, works, standing):
        """Looks at a dearest storm from a standing; returns its ticks."""
        storm = self.call(dearest_storm, crew, works, standing=standing)
        self.assertIs(type(storm), tuple)
        check_storm(storm, crew.workers)
        now, bill = standing, 0
        for word in storm:
            self.assertFalse(now[0][1])
            self.assertIn("+", word)
            self.assertEqual(set(word) - set("+-"), set())
            now = walk_tick(crew, works, now, finishers(word))
            bill += word.count("+")
        self.assertEqual(now[0][1], 1)
        self.assertEqual(bill, dearest(crew, works, standing=standing))
        return storm


class Dearest(BillTests):
    def check(self, crew, works, wanted, standing=None):
        self.assertEqual(self.call(dearest, crew, works, standing=standing), wanted)

    def test_worked_by_hand(self):
        # One worker: take, work, up, down, work, up, mark.
        self.check(Crew(1, (0,), ((0,),)), (1, 1), 7)
        self.check(Crew(1, (1,), ((0,),)), (3, 5), 13)
        self.check(bits_crew(1, bits=1), (1, 1), 11)
        # All from one leaf: each of them spends whatever one alone would.
        self.check(Crew(1, (0,) * 5, ((1,),) * 5), (2, 3), 50)
        # Two takes; one worker works 1, goes up and down; then both work 4, go up and mark.
        self.check(bits_crew(1, bits=1), (1, 4), 17)
        self.check(bits_crew(1, bits=1), (4, 1), 17)

    def test_crews_by_bits_with_equal_leaves(self):
        for h in (1, 2, 3, 4):
            for g in (0, 1, 2, 3, 4):
                for work in (1, 2, 7, 16):
                    if g <= h:
                        wanted = ((work + 5) * 2 ** (h - g) + 3) * 3 ** g - (h + 7) * 2 ** g
                    else:
                        wanted = 2 ** (g - h) * ((work + 8) * 3 ** h - (h + 7) * 2 ** h)
                    self.check(bits_crew(h, bits=g), (work,) * 2 ** h, wanted)

    def test_crews_of_one_seat(self):
        chance = random.Random(58)
        for _ in range(30):
            crew = drawn_crew(chance)
            one = Crew(crew.height, (crew.seats[0],) * crew.workers, (crew.leanings[0],) * crew.workers)
            works = drawn_works(chance, crew)
            # A worker alone spends the works, 3 * N - 2 turns and one for each node without a seat.
            alone = sum(works) + 3 * crew.leaves - 2 + (2 * crew.leaves - 1 - (crew.height + 1))
            self.check(one, works, crew.workers * alone)

    def test_no_crew_is_below_the_floor(self):
        chance = random.Random(64)
        for _ in range(60):
            crew = drawn_crew(chance)
            work = chance.randint(1, 16)

            def floor(height, many):
                if height == 0:
                    return many * (work + 1)
                half = (many + 1) // 2
                return floor(height - 1, many) + floor(height - 1, half) + 3 * many + half

            bound = floor(crew.height, crew.workers) - crew.height * crew.workers
            self.assertGreaterEqual(dearest(crew, (work,) * crew.leaves), bound)

    def test_none_is_the_start(self):
        chance = random.Random(581)
        for _ in range(20):
            crew = drawn_crew(chance)
            works = drawn_works(chance, crew)
            start = start_standing(crew)
            self.assertEqual(self.call(dearest, crew, works), dearest(crew, works, standing=start))
            self.assertEqual(self.call(dearest_storm, crew, works), dearest_storm(crew, works, standing=start))

    def test_a_part_that_is_over(self):
        chance = random.Random(582)
        for _ in range(20):
            crew = drawn_crew(chance)
            works = drawn_works(chance, crew, 3)
            over = drawn_standings(chance, crew, works)[-1]
            self.check(crew, works, 0, standing=over)
            self.assertEqual(self.call(dearest_storm, crew, works, standing=over), ())
            for passed in (tuple(works), list(works)):
                check_raises(self, PartOver, {}, tick_choice, crew, passed, over)

    def test_standings_in_the_middle_worked_by_hand(self):
        crew, works = bits_crew(1, bits=1), (1, 1)
        now = start_standing(crew)
        # Before each tick: what is left at most, and who finishes a turn.
        for left, row in ((11, (0, 1)), (9, (0,)), (8, (0,)), (7, (0,)), (6, (0, 1)), (4, (0, 1)), (2, (0, 1))):
            self.check(crew, works, left, standing=now)
            now = walk_tick(crew, works, now, row)
        self.check(crew, works, 0, standing=now)
        # Both work at their own leaves, both go up, both mark: nothing is spent on the other leaf.
        now = walk_tick(crew, works, start_standing(crew), (0, 1))
        for left, row in ((9, (0, 1)), (4, (0, 1)), (2, (0, 1))):
            self.check(crew, works, left, standing=now)
            now = walk_tick(crew, works, now, row)
        self.check(crew, works, 0, standing=now)

    def test_by_name(self):
        crew = bits_crew(1, bits=1)
        start = start_standing(crew)
        self.assertEqual(dearest(crew=crew, works=[1, 1], standing=start), 11)
        self.assertEqual(len(tick_choice(crew=crew, works=[1, 1], standing=start)), 2)
        self.assertEqual(dearest_storm(crew=crew, works=[1, 1], standing=None), dearest_storm(crew, (1, 1)))
        for function in (dearest, dearest_storm):
            with self.assertRaises(TypeError):
                function(crew, (1, 1), start)


class AgainstASearch(BillTests):
    """Points 58 to 60 at every standing that any row of ticks of a small part reaches."""

    def parts(self):
        chance = random.Random(60)
        for height, workers, most in ((1, 1, 9), (1, 2, 4), (1, 2, 1), (1, 3, 3), (1, 4, 2), (2, 1, 3), (2, 2, 2),
                                      (2, 2, 1), (2, 3, 2), (2, 3, 1), (2, 4, 1), (3, 1, 2), (3, 2, 1)):
            for _ in range(4 if workers < 4 else 1):
                crew = drawn_crew(chance, height, workers)
                works = drawn_works(chance, crew, most)
                yield crew, works, all_bills(crew, works)

    def test_dearest(self):
        for crew, works, bills in self.parts():
            for standing, (_, greatest) in bills.items():
                self.assertEqual(dearest(crew, works, standing=standing), greatest)

    def test_no_tick_gains_anything(self):
        for crew, works, bills in self.parts():
            if len(bills) > 300:
                continue
            for standing in bills:
                before = dearest(crew, works, standing=standing)
                for row in [(), *all_ticks(crew)]:
                    many = 0 if standing[0][1] else len(row)
                    behind = walk_tick(crew, works, standing, row)
                    self.assertLessEqual(many + dearest(crew, works, standing=behind), before)

    def test_tick_choice(self):
        for crew, works, bills in self.parts():
            for standing in bills:
                if not standing[0][1]:
                    self.check_choice(crew, works, standing)

    def test_dearest_storm(self):
        for crew, works, bills in self.parts():
            self.check_storm(crew, works, start_standing(crew))
            for standing in list(bills)[::20]:
                self.check_storm(crew, works, standing)


class DrawnStandings(BillTests):
    def test_no_tick_gains_anything(self):
        chance = random.Random(601)
        for _ in range(25):
            crew = drawn_crew(chance)
            works = drawn_works(chance, crew, 4)
            for standing in drawn_standings(chance, crew, works):
                row = drawn_tick(chance, crew)
                many = 0 if standing[0][1] else len(row)
                behind = walk_tick(crew, works, standing, row)
                self.assertLessEqual(many + dearest(crew, works, standing=behind),
                                     self.call(dearest, crew, works, standing=standing))

    def test_tick_choice(self):
        chance = random.Random(602)
        for _ in range(25):
            crew = drawn_crew(chance)
            works = drawn_works(chance, crew, 4)
            for standing in drawn_standings(chance, crew, works)[:-1]:
                self.check_choice(crew, works, standing)

    def test_dearest_storm(self):
        chance = random.Random(603)
        for _ in range(25):
            crew = drawn_crew(chance)
            works = drawn_works(chance, crew, 4)
            standings = drawn_standings(chance, crew, works)
            for standing in (standings[0], chance.choice(standings), standings[-2], standings[-1]):
                self.check_storm(crew, works, standing)

    def test_no_storm_is_dearer(self):
        chance = random.Random(604)
        for _ in range(60):
            crew = drawn_crew(chance)
            works = drawn_works(chance, crew, 4)
            standing, bill = start_standing(crew), 0
            while not standing[0][1]:
                row = drawn_tick(chance, crew)
                bill += len(row)
                standing = walk_tick(crew, works, standing, row)
            self.assertLessEqual(bill, dearest(crew, works))


class Choices(BillTests):
    """Each case of the way that point 59 tells: there the tick loses nothing."""

    CREW = Crew(2, (0, 0, 3, 3), ((0, 0, 0), (0, 1, 0), (1, 0, 0), (1, 0, 1)))
    WORKS = (1, 2, 1, 2)

    def after(self, *ticks):
        now = start_standing(self.CREW)
        for row in ticks:
            now = walk_tick(self.CREW, self.WORKS, now, row)
        return now

    def acts(self, now):
        row = self.check_choice(self.CREW, self.WORKS, now)
        return sorted({walk_turn(self.CREW, self.WORKS, now, worker)[0] for worker in row})

    def test_places_that_are_0(self):
        self.assertEqual(self.acts(self.after()), ["take"])
        self.check_choice(self.CREW, self.WORKS, self.after((0, 2)))
        self.check_choice(self.CREW, self.WORKS, self.after((0,), (0,), (0,)))

    def test_along_a_whole_dearest_storm(self):
        now = start_standing(self.CREW)
        acts = []
        while not now[0][1]:
            acts += self.acts(now)
            now = walk_tick(self.CREW, self.WORKS, now, tick_choice(self.CREW, self.WORKS, now))
        self.assertEqual(set(acts), {"take", "work", "up", "down", "mark"})

    def test_both_children_marked(self):
        # Both children of 2 are marked, worker 0 is at 2 and worker 1 still at 4.
        now = self.after((0, 1, 2, 3), (0,), (0,), (0,), (0,), (0,), (0,))
        self.assertEqual((now[0], now[2]), ((0, 0, 0, 0, 1, 1, 0, 0), (2, 4, 7, 7)))
        self.check_choice(self.CREW, self.WORKS, now)
        now = self.after((0, 1, 2, 3), (0,), (0,), (0,), (0,), (0,), (0,), (1,))
        self.check_choice(self.CREW, self.WORKS, now)

    def test_one_child_marked(self):
        for ticks in ([(0,)], [(0,), (0, 1)], [(0, 1), (0,)], [(0, 1), (0, 1)], [(0, 1), (0, 1), (0,)],
                      [(2,), (2,)], [(2,), (2,), (2, 3)], [(2,), (2,), (2, 3), (2, 3)]):
            self.check_choice(self.CREW, self.WORKS, self.after((0, 1, 2, 3), *ticks))

    def test_a_node_without_a_marked_child(self):
        # Workers 0 and 1 come to 3 when nothing is marked there.
        whole = [(0, 1), (0, 1), (0, 1), (0, 1), (0, 1), (0, 1), (0, 1), (0, 1)]
        now = self.after((0, 1, 2, 3), *whole)
        self.assertEqual(now[2][:2], (1, 1))
        for ticks in ([], [(0,)], [(0, 1)], [(0, 1), (0,)], [(0, 1), (1,)]):
            self.check_choice(self.CREW, self.WORKS, self.after((0, 1, 2, 3), *whole, *ticks))

    def test_a_choice_that_falls_away(self):
        # All workers under one child, and nobody at the node.
        crew = Crew(2, (0, 0), ((1, 1, 1), (1, 1, 1)))
        now = walk_tick(crew, (1, 1, 1, 1), start_standing(crew), (0, 1))
        self.assertEqual(self.check_choice(crew, (1, 1, 1, 1), now), (0, 1))


class Large(BillTests):
    def test_height_4_and_16_workers_within_some_seconds(self):
        chance = random.Random(16)
        begin = time.process_time()
        for _ in range(5):
            crew = drawn_crew(chance, 4, 16)
            works = drawn_works(chance, crew)
            self.check_storm(crew, works, start_standing(crew))
        crew = bits_crew(4, bits=4)
        storm = self.check_storm(crew, (16,) * 16, start_standing(crew))
        self.assertEqual(sum(word.count("+") for word in storm), 1768)
        self.assertLess(time.process_time() - begin, 30)


class OnTheMachine(BillTests):
    def test_a_dearest_storm_does_the_same(self):
        chance = random.Random(61)
        for _ in range(20):
            machine = Machine(drawn_program(chance), drawn_crew(chance))
            crew, works = machine.crew, machine.works
            cells = start_cells(machine, drawn_data(chance, machine.program))
            for cells in each_tick(machine, cells, drawn_storm(chance, crew.workers, chance.randint(0, 30))):
                pass
            part, code_index, standing = standing_of(machine, cells)
            if code_index == len(machine.code):
                continue
            storm = dearest_storm(crew, works, standing=standing)
            report = run_storm(machine, cells, storm)
            bill = dearest(crew, works, standing=standing)
            self.assertEqual(report.parts, ((part, code_index, bill, len(storm) - 1),))
            self.assertEqual(report.bill, bill)

    def test_worked_by_hand(self):
        machine = Machine(program("lanes 2", "array a 2", "step a[me] := a[1 - me]"), bits_crew(1, bits=1))
        storm = dearest_storm(machine.crew, machine.works) * 2
        report = run_storm(machine, start_cells(machine, (1, 2)), storm)
        self.assertEqual((report.ended, report.bill, report.steps), (True, 22, ((0, (2, 1)),)))


if __name__ == "__main__":
    unittest.main()
