"""Points 22 to 25: wishes, what a step writes, and the plain run."""

import unittest

from helpers import check_plain, check_unchanged, program
from stillinstep.clipping import LIMIT
from stillinstep.plain import after_step, lane_wishes, plain_run, writes_of

HEAD = ("lanes 3", "array a 3", "array b 2")


class PlainTests(unittest.TestCase):
    """Calls with the memory as a tuple and as a list, and looks at what is returned."""

    def call(self, function, made, index, data, *more):
        results = [check_unchanged(self, function, made, index, passed, *more) for passed in (tuple(data), list(data))]
        self.assertEqual(results[0], results[1])
        check_plain(self, results[0])
        return results[0]


class Wishes(PlainTests):
    def wishes(self, line, data):
        made = program(*HEAD, line)
        return [self.call(lane_wishes, made, 0, data, lane) for lane in range(3)]

    def test_names_and_arrays(self):
        self.assertEqual(self.wishes("step a[me] := b[0] * 10 + b[1] + me * lanes", (0, 0, 0, 4, 2)),
                         [((0, 42),), ((1, 45),), ((2, 48),)])

    def test_cells_of_later_arrays(self):
        self.assertEqual(self.wishes("step sum b[me] := 7", (0,) * 5), [((3, 7),), ((4, 7),), (None,)])

    def test_places_that_are_no_index(self):
        self.assertEqual(self.wishes("step a[me - 1] := 7", (0,) * 5), [(None,), ((0, 7),), ((1, 7),)])
        self.assertEqual(self.wishes("step a[me + 2] := 7", (0,) * 5), [((2, 7),), (None,), (None,)])
        self.assertEqual(self.wishes("step a[me - 500] := 7", (0,) * 5), [(None,)] * 3)
        self.assertEqual(self.wishes("step a[me + 3] := 7 ; b[me + 1] := 8", (0,) * 5),
                         [(None, (4, 8)), (None, None), (None, None)])

    def test_when(self):
        self.assertEqual(self.wishes("step a[me] := 7 when me - 1", (0,) * 5), [((0, 7),), (None,), ((2, 7),)])
        self.assertEqual(self.wishes("step a[me] := 7 when a[me] ; b[me] := 8", (0, -1, 0, 0, 0)),
                         [(None, (3, 8)), ((1, 7), (4, 8)), (None, None)])

    def test_several_assignments_stay_in_order(self):
        self.assertEqual(self.wishes("step first b[1] := me ; a[me] := 5 ; b[1] := 6", (0,) * 5),
                         [((4, 0), (0, 5), (4, 6)), ((4, 1), (1, 5), (4, 6)), ((4, 2), (2, 5), (4, 6))])

    def test_a_later_flat_step(self):
        made = program(*HEAD, "for i in 5 6", "step a[me] := i", "end")
        self.assertEqual(self.call(lane_wishes, made, 1, (0,) * 5, 2), ((2, 6),))

    def test_an_old_number_is_wished_too(self):
        self.assertEqual(self.wishes("step a[me] := a[me]", (4, 5, 6, 0, 0)), [((0, 4),), ((1, 5),), ((2, 6),)])


class Writes(PlainTests):
    def writes(self, line, data, *wanted):
        made = program(*HEAD, line)
        self.assertEqual(self.call(writes_of, made, 0, data), wanted)
        cells = list(data)
        for cell, value in wanted:
            cells[cell] = value
        self.assertEqual(self.call(after_step, made, 0, data), tuple(cells))

    def test_without_a_rule(self):
        self.writes("step a[2 - me] := me + 1", (7, 7, 7, 7, 7), (0, 3), (1, 2), (2, 1))
        self.writes("step b[me] := 1 ; a[me] := 2 when me", (7, 7, 7, 7, 7), (1, 2), (2, 2), (3, 1), (4, 1))

    def test_all_read_the_memory_before_the_step(self):
        self.writes("step a[me] := a[(me + 1) mod 3]", (4, 5, 6, 0, 0), (0, 5), (1, 6), (2, 4))
        self.writes("step sum a[me] := b[0] ; b[0] := a[me]", (4, 5, 6, 9, 0), (0, 9), (1, 9), (2, 9), (3, 15))

    def test_nothing_is_written(self):
        self.writes("step a[me] := 1 when 0", (4, 5, 6, 0, 0))
        self.writes("step a[me + 3] := 1", (4, 5, 6, 0, 0))

    def test_a_cell_that_gets_its_old_number(self):
        self.writes("step a[me] := a[me] when me < 2", (4, 5, 6, 0, 0), (0, 4), (1, 5))

    def test_one_wish_alone_under_each_rule(self):
        for rule in ("first", "sum", "most", "least"):
            self.writes(f"step {rule} a[0] := 3 when me = 1", (9, 9, 9, 9, 9), (0, 3))
            self.writes(f"step {rule} a[0] := 0 - 3 when me = 1", (9, 9, 9, 9, 9), (0, -3))

    def test_several_lanes_wish_one_cell(self):
        data = (5, -7, 2, 100, 0)
        for rule, value in (("first", 5), ("sum", 0), ("most", 5), ("least", -7)):
            self.writes(f"step {rule} b[0] := a[me]", data, (3, value))

    def test_several_lanes_and_assignments_wish_one_cell(self):
        # The wishes in their order: 1, 10 of lane 0; 2, 20 of lane 1; 3, 30 of lane 2.
        for rule, value in (("first", 1), ("sum", 66), ("most", 30), ("least", 1)):
            self.writes(f"step {rule} b[1] := me + 1 ; b[1] := 10 * (me + 1)", (0,) * 5, (4, value))
        self.writes("step first b[1] := 1 when me ; b[1] := 2 ; b[1] := 3", (0,) * 5, (4, 2))
        self.writes("step first b[1] := 4 when me = 1 ; b[1] := 5 when me = 2 ; b[1] := 6 when me = 1", (0,) * 5,
                    (4, 4))

    def test_first_goes_by_lane_before_assignment(self):
        self.writes("step first b[0] := 1 when me = 2 ; b[0] := 2 when me = 1 ; b[0] := 3 when me = 2", (0,) * 5,
                    (3, 2))

    def test_each_cell_by_itself(self):
        self.writes("step sum a[me mod 2] := me + 1 ; b[0] := a[me]", (5, 6, 7, 0, 0), (0, 4), (1, 2), (3, 18))

    def test_the_old_number_is_not_added(self):
        self.writes("step sum b[0] := 1", (0, 0, 0, 50, 0), (3, 3))

    def test_sums_at_and_beyond_the_limit(self):
        self.writes("step sum b[0] := a[me]", (LIMIT - 3, 1, 2, 0, 0), (3, LIMIT))
        self.writes("step sum b[0] := a[me]", (LIMIT - 3, 1, 3, 0, 0), (3, LIMIT))
        self.writes("step sum b[0] := a[me]", (LIMIT, LIMIT, LIMIT, 0, 0), (3, LIMIT))
        self.writes("step sum b[0] := a[me]", (-LIMIT, -LIMIT, -1, 0, 0), (3, -LIMIT))

    def test_sums_are_clipped_once_at_the_end(self):
        self.writes("step sum b[0] := a[me]", (LIMIT, LIMIT, -LIMIT, 0, 0), (3, LIMIT))
        self.writes("step sum b[0] := a[me]", (LIMIT, 5, -LIMIT, 0, 0), (3, 5))
        self.writes("step sum b[0] := a[me]", (-LIMIT, -5, LIMIT, 0, 0), (3, -5))

    def test_a_later_flat_step(self):
        made = program(*HEAD, "for i in 5 6", "step a[me] := i * me", "end")
        self.assertEqual(self.call(writes_of, made, 1, (0,) * 5), ((0, 0), (1, 6), (2, 12)))
        self.assertEqual(self.call(after_step, made, 1, (9,) * 5), (0, 6, 12, 9, 9))


class Runs(unittest.TestCase):
    def run_of(self, made, data, most):
        results = [check_unchanged(self, plain_run, made, passed, most=most) for passed in (tuple(data), list(data))]
        self.assertEqual(results[0], results[1])
        check_plain(self, results[0][0])
        self.assertIs(type(results[0]), tuple)
        self.assertIn(results[0][1], (True, False))
        self.assertIs(type(results[0][1]), bool)
        return results[0]

    def test_bounds(self):
        made = program("lanes 1", "array a 2", "step a[0] := a[0] + 1", "step a[1] := a[0] * 2", "step a[0] := 7")
        steps = ((0, (5, 0)), (1, (5, 10)), (2, (7, 10)))
        self.assertEqual(self.run_of(made, (4, 0), 0), ((), False))
        self.assertEqual(self.run_of(made, (4, 0), 1), (steps[:1], False))
        self.assertEqual(self.run_of(made, (4, 0), 2), (steps[:2], False))
        self.assertEqual(self.run_of(made, (4, 0), 3), (steps, True))
        self.assertEqual(self.run_of(made, (4, 0), 4), (steps, True))
        self.assertEqual(self.run_of(made, (4, 0), 1000), (steps, True))

    def test_a_do_block(self):
        made = program("lanes 1", "array a 1", "step a[0] := a[0] + 10", "do", "step a[0] := a[0] - 1",
                       "step a[0] := a[0] * 2", "while a[0] < 60")
        steps = ((0, (20,)), (1, (19,)), (2, (38,)), (1, (37,)), (2, (74,)))
        self.assertEqual(self.run_of(made, (10,), 1000), (steps, True))
        self.assertEqual(self.run_of(made, (10,), 5), (steps, True))
        self.assertEqual(self.run_of(made, (10,), 4), (steps[:4], False))

    def test_a_condition_holds_at_the_last_step_that_is_done(self):
        made = program("lanes 1", "array a 1", "do", "step a[0] := a[0] - 1", "while a[0]")
        self.assertEqual(self.run_of(made, (2,), 1), (((0, (1,)),), False))
        self.assertEqual(self.run_of(made, (2,), 2), (((0, (1,)), (0, (0,))), True))

    def test_a_program_that_never_ends(self):
        made = program("lanes 2", "array a 2", "do", "step a[me] := a[me] + 1", "while 1")
        for most in (0, 1, 10, 1000):
            steps, ended = self.run_of(made, (0, 5), most)
            self.assertEqual(steps, tuple((0, (number, number + 5)) for number in range(1, most + 1)))
            self.assertIs(ended, False)

    def test_the_largest_run(self):
        step = "step a[me] := a[me] + b[me] ; b[me] := a[me + 1]"
        made = program("lanes 32", "array a 64", "array b 64", "do", *[step] * 48, "while 1")
        steps, ended = plain_run(made, tuple(range(128)), most=1000)
        self.assertEqual((len(steps), ended), (1000, False))

    def test_most_stands_behind_a_star(self):
        made = program("lanes 1", "array a 1", "step a[0] := 1")
        self.assertEqual(plain_run(program=made, data=[0], most=1), (((0, (1,)),), True))
        with self.assertRaises(TypeError):
            plain_run(made, (0,), 1)
        with self.assertRaises(TypeError):
            plain_run(made, (0,))

    def test_by_name(self):
        made = program("lanes 1", "array a 1", "step a[0] := 1")
        self.assertEqual(lane_wishes(program=made, index=0, data=[0], lane=0), ((0, 1),))
        self.assertEqual(writes_of(program=made, index=0, data=[0]), ((0, 1),))
        self.assertEqual(after_step(program=made, index=0, data=[0]), (1,))


if __name__ == "__main__":
    unittest.main()
