"""Point 62: the least bill of a part and a storm that has it."""

import random
import unittest

from drawing import drawn_crew, drawn_data, drawn_program, drawn_tick, drawn_works
from helpers import check_plain, check_unchanged
from searching import all_bills
from stillinstep.bills import dearest
from stillinstep.crews import Crew, bits_crew
from stillinstep.leasts import least, least_storm
from stillinstep.machines import Machine, start_cells
from stillinstep.runs import run_storm
from stillinstep.storms import check_storm, finishers
from stillinstep.walks import start_standing, walk_tick


def rows(many, height):
    """Rows of leanings, all of them 0."""
    return [[0] * (2 ** height - 1) for _ in range(many)]


class LeastTests(unittest.TestCase):
    def call(self, function, crew, works):
        results = [check_unchanged(self, function, crew, kind(works)) for kind in (tuple, list)]
        self.assertEqual(results[0], results[1])
        check_plain(self, results[0])
        return results[0]

    def check(self, crew, works, wanted=None):
        """Looks at the least bill and the least storm of a part."""
        bill = self.call(least, crew, works)
        if wanted is not None:
            self.assertEqual(bill, wanted)
        storm = self.call(least_storm, crew, works)
        self.assertIs(type(storm), tuple)
        check_storm(storm, crew.workers)
        now, spent = start_standing(crew), 0
        for word in storm:
            self.assertFalse(now[0][1])
            self.assertIn("+", word)
            self.assertEqual(set(word) - set("+-"), set())
            now = walk_tick(crew, works, now, finishers(word))
            spent += word.count("+")
        self.assertEqual((now[0][1], spent), (1, bill))


class Least(LeastTests):
    def test_worked_by_hand(self):
        self.check(bits_crew(1, bits=1), (1, 1), 6)
        self.check(Crew(1, (0,), ((0,),)), (1, 1), 7)
        self.check(Crew(1, (1,), ((1,),)), (3, 5), 13)
        self.check(bits_crew(1, bits=0), (16, 16), 37)
        self.check(bits_crew(2, bits=2), (1, 1, 1, 1), 14)
        self.check(bits_crew(2, bits=1), (1, 2, 3, 4), 22)
        self.check(bits_crew(4, bits=0), (1,) * 16, 88)

    def test_seats_alike(self):
        self.check(Crew(1, (0, 0, 0), ((0,), (1,), (0,))), (1, 1), 7)
        self.check(Crew(1, (1, 0, 1, 0), ((0,), (1,), (0,), (1,))), (2, 1), 7)
        self.check(Crew(2, (3,) * 16, rows(16, 2)), (1, 1, 1, 1), 18)

    def test_leaves_without_a_seat(self):
        self.check(Crew(2, (0, 1), rows(2, 2)), (1, 1, 1, 1), 17)
        self.check(Crew(2, (0, 2), rows(2, 2)), (1, 1, 1, 1), 16)
        self.check(Crew(2, (1, 2, 3), rows(3, 2)), (1, 1, 1, 1), 15)
        self.check(Crew(3, (6,), [[1] * 7]), (1,) * 8, 41)
        self.check(Crew(3, (0, 7, 0, 7), [[1, 0, 1, 0, 1, 0, 1]] * 4), (1,) * 8, 38)

    def test_crews_by_bits(self):
        for height in (1, 2, 3, 4):
            for bits in (0, 1, 2, 3, 4):
                leaves, chosen = 2 ** height, 2 ** min(bits, height)
                # Under each used seat lie one leaf and the nodes above it that it does not share.
                unseated = 2 * leaves - 1 - (2 * chosen - 1) - chosen * (height - min(bits, height))
                for work in (1, 16):
                    self.check(bits_crew(height, bits=bits), (work,) * leaves, work * leaves + 3 * leaves - 2 + unseated)

    def test_drawn_crews(self):
        chance = random.Random(62)
        for _ in range(150):
            crew = drawn_crew(chance)
            self.check(crew, drawn_works(chance, crew))

    def test_against_a_search(self):
        chance = random.Random(621)
        for height, workers, most in ((1, 1, 5), (1, 2, 3), (1, 3, 2), (1, 4, 2), (2, 1, 2), (2, 2, 2), (2, 3, 1),
                                      (2, 4, 1), (3, 1, 1), (3, 2, 1)):
            for _ in range(3 if workers < 4 else 1):
                crew = drawn_crew(chance, height, workers)
                works = drawn_works(chance, crew, most)
                self.check(crew, works, all_bills(crew, works)[start_standing(crew)][0])

    def test_no_storm_is_cheaper(self):
        chance = random.Random(622)
        for _ in range(60):
            crew = drawn_crew(chance)
            works = drawn_works(chance, crew, 4)
            now, bill = start_standing(crew), 0
            while not now[0][1]:
                row = drawn_tick(chance, crew)
                bill += len(row)
                now = walk_tick(crew, works, now, row)
            self.assertGreaterEqual(bill, least(crew, works))
            self.assertLessEqual(least(crew, works), dearest(crew, works))

    def test_on_the_machine(self):
        chance = random.Random(623)
        for _ in range(20):
            machine = Machine(drawn_program(chance), drawn_crew(chance))
            cells = start_cells(machine, drawn_data(chance, machine.program))
            storm = least_storm(machine.crew, machine.works)
            report = run_storm(machine, cells, storm)
            bill = least(machine.crew, machine.works)
            self.assertEqual((report.bill, report.parts), (bill, ((1, 0, bill, len(storm) - 1),)))

    def test_by_name(self):
        crew = bits_crew(1, bits=1)
        self.assertEqual(least(crew=crew, works=[1, 1]), 6)
        self.assertEqual(least_storm(crew=crew, works=[1, 1]), least_storm(crew, (1, 1)))


if __name__ == "__main__":
    unittest.main()
