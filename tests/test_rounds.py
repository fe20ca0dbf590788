"""Point 71: storms that come round."""

import random
import time
import unittest

from drawing import drawn_crew, drawn_data, drawn_program, drawn_storm
from helpers import check_raises, check_unchanged, program
from stillinstep.crews import Crew, bits_crew
from stillinstep.errors import BadRound, BadStorm, NotEnded
from stillinstep.machines import Machine, has_ended, start_cells
from stillinstep.plain import plain_run
from stillinstep.rounds import ends_in_rounds, rounds_to_end
from stillinstep.runs import run_storm
from stillinstep.storms import calm_storm

MACHINE = Machine(program("lanes 2", "array a 2", "step a[me] := a[me] + a[1 - me]"), bits_crew(1, bits=1))
DATA = (3, 4)
# The run of MACHINE: 8 calm ticks, or 7 ticks of one worker for each of two parts.


class RoundTests(unittest.TestCase):
    def call(self, machine, data, first, again, most=1000):
        """How many rounds, or None, with all sequences as tuples and as lists."""
        found = []
        for kind in (tuple, list):
            named = {"first": kind(first), "again": kind(again), "most": most}
            rounds = check_unchanged(self, rounds_to_end, machine, kind(data), **named)
            ends = check_unchanged(self, ends_in_rounds, machine, kind(data), **named)
            self.assertIs(ends, rounds is not None)
            self.assertTrue(rounds is None or type(rounds) is int)
            found.append(rounds)
        self.assertEqual(found[0], found[1])
        return found[0]

    def check(self, wanted, first, again):
        self.assertEqual(self.call(MACHINE, DATA, first, again), wanted)

    def refuse(self, error, fields, first, again, machine=MACHINE, data=DATA, most=1000):
        for function in (ends_in_rounds, rounds_to_end):
            for kind in (tuple, list):
                check_raises(self, error, fields, function, machine, kind(data), first=kind(first), again=kind(again),
                             most=most)


class Rounds(RoundTests):
    def test_the_first_words_are_enough(self):
        for first in (calm_storm(2, 8), calm_storm(2, 9), calm_storm(2, 50), ("+-",) * 14):
            for again in (("++",), ("--",), ("99", "-5"), ("+-", "--")):
                self.check(0, first, again)

    def test_the_first_words_are_just_not_enough(self):
        self.check(1, calm_storm(2, 7), ["++"])
        self.check(1, calm_storm(2, 7), ["+-"])
        self.check(1, ("+-",) * 13, ["+-"])
        self.check(None, calm_storm(2, 7), ["--"])
        self.check(None, calm_storm(2, 7), ["9-", "-9", "00"])

    def test_an_empty_first_storm(self):
        self.check(8, (), ["++"])
        self.check(14, (), ["+-"])
        self.check(14, (), ["-+"])
        self.check(14, (), ["--", "-+", "8-"])
        self.check(1, (), calm_storm(2, 8))
        self.check(1, (), calm_storm(2, 30))
        self.check(2, (), calm_storm(2, 7))
        self.check(2, (), calm_storm(2, 4))
        self.check(3, (), calm_storm(2, 3))
        self.check(None, (), ["--"])

    def test_a_round_that_is_performed_in_part(self):
        self.check(1, (), [*calm_storm(2, 8), "--", "--"])
        self.check(1, (), ["--", *calm_storm(2, 8)])
        self.check(2, (), ["--", *calm_storm(2, 7)])
        self.check(2, calm_storm(2, 2), [*calm_storm(2, 5), "--", "12"])

    def test_the_first_words_end_within_a_part(self):
        for many in range(1, 8):
            self.check(8 - many, calm_storm(2, many), ["++"])
        for many in range(1, 14):
            self.check(14 - many, ("+-",) * many, ["+-"])

    def test_workers_that_never_wake(self):
        crew = Crew(2, (0, 1, 3), ((0, 0, 0), (0, 1, 0), (1, 0, 1)))
        machine = Machine(program("lanes 4", "array a 4", "step a[me] := 1 - a[me]"), crew)
        # One worker alone: 4 turns of work, 10 others, and one for each of the four nodes without a seat.
        for word in ("+--", "-+-", "--+"):
            self.assertEqual(self.call(machine, (0,) * 4, (), [word]), 2 * (4 + 10 + 4))
        for word in ("---", "987", "0-0"):
            self.assertIs(self.call(machine, (0,) * 4, ("+++",) * 5, [word]), None)

    def test_by_name(self):
        named = {"machine": MACHINE, "data": [3, 4], "first": [], "again": ["++"], "most": 1}
        self.assertIs(ends_in_rounds(**named), True)
        self.assertEqual(rounds_to_end(**named), 8)
        for function in (ends_in_rounds, rounds_to_end):
            with self.assertRaises(TypeError):
                function(MACHINE, DATA, (), ("++",), 5)


class Errors(RoundTests):
    def test_bad_words(self):
        for tick, first, again in ((0, ["+"], ["++"]), (1, ["++", "+x"], ["++"]), (2, ["++", "--"], ["+"]),
                                   (0, [], [""]), (1, [], ["++", "+++"]), (3, ["++"], ["++", "++", "2", "x"]),
                                   (1, ["++", "+"], ["+"]), (20, calm_storm(2, 20), ["+ "])):
            self.refuse(BadStorm, {"tick": tick}, first, again)

    def test_bad_round(self):
        self.refuse(BadRound, {}, [], [])
        self.refuse(BadRound, {}, ["++"], [])
        # Also where the first words are enough.
        self.refuse(BadRound, {}, calm_storm(2, 8), [])

    def test_not_ended(self):
        self.refuse(NotEnded, {"most": 0}, [], ["++"], most=0)
        self.refuse(NotEnded, {"most": 0}, calm_storm(2, 8), ["++"], most=0)
        self.refuse(NotEnded, {"most": 0}, [], ["--"], most=0)
        machine = Machine(program("lanes 1", "array a 1", "do", "step a[0] := 1", "while 1"), bits_crew(1, bits=1))
        for most in (0, 1, 5):
            self.refuse(NotEnded, {"most": most}, [], ["++"], machine, (0,), most)
        machine = Machine(program("lanes 1", "array a 1", "do", "step a[0] := a[0] + 1", "while a[0] < 3"), MACHINE.crew)
        self.refuse(NotEnded, {"most": 2}, calm_storm(2, 300), ["++"], machine, (0,), 2)
        self.assertEqual(self.call(machine, (0,), calm_storm(2, 300), ["++"], 3), 0)

    def test_their_order(self):
        self.refuse(BadStorm, {"tick": 1}, ["++", "+"], [], most=0)
        self.refuse(BadStorm, {"tick": 0}, ["x+"], [])
        self.refuse(BadStorm, {"tick": 1}, ["++"], ["+"], most=0)
        self.refuse(BadRound, {}, ["++"], [], most=0)


class Drawn(RoundTests):
    def test_round_by_round(self):
        chance = random.Random(71)
        found = []
        while len(found) < 40:
            machine = Machine(drawn_program(chance), drawn_crew(chance, height=chance.randint(1, 3)))
            data = drawn_data(chance, machine.program)
            if not plain_run(machine.program, data, most=6)[1]:
                continue
            workers = machine.crew.workers
            first = drawn_storm(chance, workers, chance.choice((0, 0, 3, 40, 200)))
            again = drawn_storm(chance, workers, chance.randint(1, 9), chance.choice((0.02, 0.3, 0.9)))
            cells = run_storm(machine, start_cells(machine, data), first).cells
            rounds = 0
            while not has_ended(machine, cells) and any("+" in word for word in again):
                cells = run_storm(machine, cells, again).cells
                rounds += 1
            found.append(rounds if has_ended(machine, cells) else None)
            self.assertEqual(self.call(machine, data, first, again, 6), found[-1])
        self.assertIn(0, found)
        self.assertIn(None, found)
        self.assertGreater(len(set(found)), 10)

    def test_a_long_run_with_few_finished_turns(self):
        lines = ("lanes 32", "array a 32", "array b 1", "do", "step a[me] := a[me] + 1", "step sum b[0] := a[me]",
                 "while a[0] < 400")
        machine = Machine(program(*lines), bits_crew(4, bits=4))
        again = ["-" * 16] * 9 + ["-" * 7 + "+" + "-" * 8] + ["0" * 16] * 5
        begin = time.process_time()
        # One worker alone: 32 turns of work, 46 others, and one for each of the 26 nodes that it has to come down to.
        self.assertEqual(rounds_to_end(machine, (0,) * 33, first=(), again=again, most=1000), 400 * 5 * (32 + 46 + 26))
        self.assertLess(time.process_time() - begin, 20)


if __name__ == "__main__":
    unittest.main()
