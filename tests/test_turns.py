"""Points 43, 44 and 46: the next turn of a worker, by the cells."""

import random
import unittest

from drawing import drawn_crew, drawn_data, drawn_program, drawn_storm
from helpers import check_plain, check_unchanged, program, region_of, with_region
from stillinstep.crews import Crew, bits_crew
from stillinstep.machines import Machine, current_part, start_cells
from stillinstep.plain import plain_run
from stillinstep.runs import run_storm
from stillinstep.storms import calm_storm
from stillinstep.ticks import after_tick, each_tick, standing_of
from stillinstep.turns import turn_of
from stillinstep.walks import walk_turn

# Five lanes on two leaves: leaf 0 has the jobs 0, 2 and 4, leaf 1 the jobs 1 and 3.
PROGRAM = ("lanes 5", "array a 5", "array b 1", "step a[me] := a[me] + 1", "step b[me] := 7")
CREW = Crew(1, (0, 1, 1), ((0,), (1,), (0,)))
TAKEN = (("node", 0, 2), ("taken", 0, 1))


class TurnTests(unittest.TestCase):
    def turn(self, found, cells, worker):
        turn = check_unchanged(self, turn_of, found, cells, worker)
        check_plain(self, turn)
        return turn

    def after(self, found, data, *words):
        """The cells behind these words, from the first cells on."""
        cells = start_cells(found, data)
        for word in words:
            cells = after_tick(found, cells, word)
        return cells


class Acts(TurnTests):
    def setUp(self):
        self.machine = Machine(program(*PROGRAM), CREW)

    def turns(self, *words):
        cells = self.after(self.machine, (1, 2, 3, 4, 5, 0), *words)
        return [self.turn(self.machine, cells, worker) for worker in (0, 1, 2)]

    def test_take(self):
        self.assertEqual(self.turns(), [("take", (("node", worker, node), ("taken", worker, 1)))
                                        for worker, node in ((0, 2), (1, 3), (2, 3))])

    def test_a_take_that_was_cut(self):
        self.assertEqual(self.turns("1--")[0], ("take", TAKEN))

    def test_work_with_the_first_count(self):
        self.assertEqual(self.turns("+++"), [
            ("work", (("look", 0, 0), ("look", 1, 2), ("count", 0, 1), ("stamp", 0, 1))),
            ("work", (("look", 2, 1), ("look", 3, 3), ("count", 1, 1), ("stamp", 1, 1))),
            ("work", (("look", 2, 1), ("look", 3, 3), ("count", 1, 1), ("stamp", 1, 1)))])

    def test_work_with_a_later_count(self):
        self.assertEqual(self.turns("+++", "+--")[0],
                         ("work", (("look", 4, 2), ("look", 5, 4), ("count", 0, 2))))

    def test_work_with_the_last_count(self):
        self.assertEqual(self.turns("+++", "+--", "+--")[0],
                         ("work", (("look", 8, 4), ("look", 9, 6), ("mark", 2, 1))))
        self.assertEqual(self.turns("+++", "-+-")[2],
                         ("work", (("look", 6, 3), ("look", 7, 5), ("mark", 3, 1))))

    def test_a_count_without_its_stamp(self):
        # A turn that is cut behind the count and before the stamp begins again.
        self.assertEqual(self.turns("+++", "3--")[0][1][2:], (("count", 0, 1), ("stamp", 0, 1)))

    def test_up_down_and_mark(self):
        half = ("+++", "+--", "+--", "+--")
        self.assertEqual(self.turns(*half)[0], ("up", (("node", 0, 1),)))
        self.assertEqual(self.turns(*half, "+--")[0], ("down", (("node", 0, 3),)))
        self.assertEqual(self.turns(*half, "-+-", "--+")[1], ("up", (("node", 1, 1),)))
        done = (*half, "+--", "-+-", "-+-")
        self.assertEqual(self.turns(*done)[0], ("mark", (("coming", 0, 1), ("mark", 1, 1))))
        self.assertEqual(self.turns(*done)[1], ("up", (("node", 1, 1),)))

    def test_the_next_part(self):
        whole = ("+++", "+++", "+++", "+++", "+++")
        cells = self.after(self.machine, (1, 2, 3, 4, 5, 0), *whole)
        self.assertEqual(current_part(cells), (2, 1))
        # All of them take up the new part: what is taken and stamped belongs to another part.
        self.assertEqual(self.turns(*whole), [("take", (("node", worker, node), ("taken", worker, 2)))
                                              for worker, node in ((0, 2), (1, 3), (2, 3))])
        found = self.turns(*whole, "+++")
        self.assertEqual(found[0], ("work", (("data", 0, 2), ("count", 0, 1), ("stamp", 0, 2))))
        self.assertEqual(found[1], ("work", (("data", 1, 3), ("count", 1, 1), ("stamp", 1, 2))))

    def test_a_stamp_of_another_part(self):
        cells = self.after(self.machine, (0,) * 6, "+++")
        for stamp, wanted in ((0, 0), (1, 2), (2, 0), (-1, 0)):
            other = with_region(with_region(cells, "count", (2, 1)), "stamp", (stamp, 0))
            _, writes = self.turn(self.machine, other, 0)
            self.assertEqual(writes[0], ("look", 4 * wanted, 2 * wanted))

    def test_idle(self):
        cells = self.after(self.machine, (0,) * 6, *["+++"] * 40)
        self.assertEqual(current_part(cells)[1], 3)
        self.assertEqual([self.turn(self.machine, cells, worker) for worker in (0, 1, 2)], [("idle", ())] * 3)

    def test_by_name(self):
        cells = start_cells(self.machine, (0,) * 6)
        self.assertEqual(turn_of(machine=self.machine, cells=cells, worker=0), ("take", TAKEN))


class InnerNodes(TurnTests):
    def setUp(self):
        # One lane on four leaves: only leaf 0 has a job.
        made = program("lanes 1", "array a 1", "step a[me] := 5")
        self.machine = Machine(made, Crew(2, (1, 2), ((0, 0, 0), (1, 0, 1))))

    def turns(self, *words):
        cells = self.after(self.machine, (0,), *words)
        return [self.turn(self.machine, cells, worker) for worker in (0, 1)]

    def test_a_leaf_without_a_job(self):
        self.assertEqual(self.turns("++"), [("work", (("mark", 5, 1),)), ("work", (("mark", 6, 1),))])

    def test_the_only_child_without_a_mark(self):
        self.assertEqual(self.turns("++", "++", "++"), [("down", (("node", 0, 4),)), ("down", (("node", 1, 7),))])

    def test_a_leaf_with_one_job(self):
        self.assertEqual(self.turns("++", "++", "++", "+-")[0], ("work", (("data", 0, 5), ("mark", 4, 1))))

    def test_a_mark_that_is_not_the_root(self):
        half = ("++", "++", "++", "+-", "+-", "+-")
        self.assertEqual(self.turns(*half)[0], ("mark", (("mark", 2, 1),)))
        self.assertEqual(self.turns(*half, "+-")[0], ("up", (("node", 0, 1),)))
        self.assertEqual(self.turns(*half, "+-", "+-")[0], ("down", (("node", 0, 3),)))

    def test_the_child_that_is_tried_first(self):
        one = ("+-", "+-", "+-", "+-", "+-", "+-", "+-", "+-", "+-")
        self.assertEqual(self.turns(*one)[0], ("down", (("node", 0, 6),)))
        other = ("-+", "-+", "-+", "-+", "-+", "-+", "-+", "-+", "-+")
        self.assertEqual(self.turns(*other)[1], ("down", (("node", 1, 4),)))
        machine = Machine(self.machine.program, Crew(2, (1, 2), ((0, 0, 1), (1, 1, 1))))
        cells = self.after(machine, (0,), *one)
        self.assertEqual(self.turn(machine, cells, 0), ("down", (("node", 0, 7),)))
        cells = self.after(machine, (0,), *other)
        self.assertEqual(self.turn(machine, cells, 1), ("down", (("node", 1, 5),)))


class Following(TurnTests):
    """Point 46, by the last mark of each part of a run."""

    def check(self, lines, data, wanted):
        """The code indexes that follow the parts of a run of one worker, in order."""
        machine = Machine(program(*lines), Crew(1, (0,), ((0,),)))
        cells = start_cells(machine, data)
        following = []
        while turn_of(machine, cells, 0)[0] != "idle":
            part, _ = current_part(cells)
            act, writes = self.turn(machine, cells, 0)
            if act == "mark":
                self.assertEqual(len(writes), 2)
                region, index, value = writes[0]
                self.assertEqual((region, index), ("coming", (part + 1) % 2))
                self.assertEqual(writes[1], ("mark", 1, part))
                following.append(value)
            cells = after_tick(machine, cells, "+")
        self.assertEqual(following, wanted)

    def test_parts_of_one_step(self):
        self.check(["lanes 1", "array a 1", "step sum a[0] := 1"], (0,), [1, 2, 3])

    def test_several_steps(self):
        self.check(["lanes 1", "array a 1", "step a[0] := 1", "step a[0] := a[0]", "step sum a[0] := 1",
                    "step a[0] := 2"], (0,), [1, 2, 3, 4, 5, 6, 7])

    def test_a_do_block_that_goes_round(self):
        self.check(["lanes 1", "array a 1", "step a[0] := 0", "do", "step a[0] := a[0] + 1", "step first a[0] := a[0]",
                    "while a[0] < 2", "step a[0] := 9"], (5,), [1, 2, 3, 4, 5, 1, 2, 3, 4, 5, 6, 7])

    def test_the_end_of_a_program_that_ends_with_a_do_block(self):
        self.check(["lanes 1", "array a 1", "do", "do", "step a[0] := a[0] + 1", "while a[0] mod 2", "while a[0] < 4"],
                   (0,), [1, 0, 1, 0, 1, 0, 1, 2])

    def test_lanes_in_a_condition(self):
        self.check(["lanes 2", "array a 2", "do", "step a[me] := a[me] + 1", "while a[0] < lanes"], (0, 0),
                   [1, 0, 1, 2])

    def test_the_condition_reads_the_memory_behind_the_step(self):
        self.check(["lanes 1", "array a 1", "array b 1", "do", "step a[0] := b[0] + 1", "while a[0] = 0"], (0, 0), [1])

    def test_drawn_programs(self):
        chance = random.Random(46)
        for _ in range(40):
            made = drawn_program(chance)
            data = drawn_data(chance, made)
            machine = Machine(made, Crew(1, (1,), ((0,),)))
            steps, ended = plain_run(made, data, most=6)
            report = run_storm(machine, start_cells(machine, data), calm_storm(1, 18 * (sum(machine.works) + 5)))
            wanted = [at for index, _ in steps for at, (step, _) in enumerate(machine.code) if step == index]
            self.assertEqual([code_index for _, code_index, _, _ in report.parts][:len(wanted)], wanted)
            self.assertTrue(report.ended or not ended)


class AllTurns(TurnTests):
    """What holds of every turn, over drawn runs."""

    def setUp(self):
        chance = random.Random(44)
        self.seen = []
        for _ in range(40):
            machine = Machine(drawn_program(chance), drawn_crew(chance))
            first = start_cells(machine, drawn_data(chance, machine.program))
            storm = drawn_storm(chance, machine.crew.workers, 60, chance.choice((0.3, 0.7, 1)))
            cells = [first, *each_tick(machine, first, storm)]
            self.seen += [(machine, cells[at], chance.randrange(machine.crew.workers)) for at in range(0, 60, 3)]
            self.seen.append((machine, cells[-1], 0))

    def test_as_the_walk(self):
        acts = set()
        for machine, cells, worker in self.seen:
            act, _ = self.turn(machine, cells, worker)
            _, _, standing = standing_of(machine, cells)
            if act != "idle":
                self.assertEqual(act, walk_turn(machine.crew, machine.works, standing, worker)[0])
            acts.add(act)
        self.assertEqual(acts, {"idle", "take", "up", "work", "mark", "down"})

    def test_numbers_of_writes(self):
        most = 0
        for machine, cells, worker in self.seen:
            act, writes = self.turn(machine, cells, worker)
            self.assertLessEqual(len(writes), 8 if act == "work" else 2)
            self.assertEqual(act == "idle", writes == ())
            most = max(most, len(writes))
        self.assertEqual(most, 8)

    def test_the_last_write_is_the_one_that_counts(self):
        for machine, cells, worker in self.seen:
            _, writes = self.turn(machine, cells, worker)
            standing = standing_of(machine, cells)
            for many in range(len(writes)):
                cut = cells
                for region, index, value in writes[:many]:
                    numbers = list(region_of(cut, region))
                    numbers[index] = value
                    cut = with_region(cut, region, numbers)
                self.assertEqual(standing_of(machine, cut), standing)

    def test_eight_writes(self):
        machine = Machine(program("lanes 3", "array a 3", "step first a[0] := a[me] ; a[1] := me ; a[2] := 1 when me"),
                          bits_crew(1, bits=0))
        cells = self.after(machine, (4, 5, 6), "+")
        self.assertEqual(self.turn(machine, cells, 0),
                         ("work", (("look", 0, 0), ("look", 1, 4), ("look", 2, 1), ("look", 3, 0), ("look", 4, -1),
                                   ("look", 5, 0), ("count", 0, 1), ("stamp", 0, 1))))


if __name__ == "__main__":
    unittest.main()
