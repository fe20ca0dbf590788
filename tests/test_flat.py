"""Points 19 and 20: flat steps and the step that follows."""

import unittest

from helpers import check_plain, check_unchanged, ex, program
from stillinstep.clipping import LIMIT
from stillinstep.flat import flat_steps, next_step
from stillinstep.memory import data_of

HEAD = ("lanes 4", "array a 4", "array b 2")


def one(text, *closes):
    """The entry of a flat step without a rule that assigns the value of the text to a[me]."""
    return ("", (("a", ("name", "me"), ex(text), None),), closes)


class FlatSteps(unittest.TestCase):
    def check(self, lines, *wanted):
        steps = check_unchanged(self, flat_steps, program(*HEAD, *lines))
        self.assertEqual(steps, wanted)
        check_plain(self, steps)

    def test_steps_alone(self):
        self.check(["step a[me] := 1", "step a[me] := 2"], one("1"), one("2"))
        self.check(["step most a[0] := me ; b[1] := 2 when a[me]"],
                   ("most", (("a", ("number", 0), ex("me"), None), ("b", ("number", 1), ("number", 2), ex("a[me]"))),
                    ()))

    def test_for_blocks(self):
        self.check(["for i in 3 0 3", "step a[me] := i", "step a[me] := i + me", "end", "step a[me] := 9"],
                   one("3"), one("3 + me"), one("0"), one("0 + me"), one("3"), one("3 + me"), one("9"))
        self.check([f"for i in {LIMIT}", "step a[me] := i", "end"], one(str(LIMIT)))

    def test_for_blocks_in_for_blocks(self):
        self.check(["for i in 1 2", "for j in 3 4", "step a[me] := i * j", "end", "step a[me] := i", "end"],
                   one("1 * 3"), one("1 * 4"), one("1"), one("2 * 3"), one("2 * 4"), one("2"))

    def test_names_are_replaced_everywhere(self):
        self.check(["for i in 0 1", "step sum a[i] := a[me + i] * min(i, a[i]) when i < pick(me, i, i)", "end"],
                   *[("sum", (("a", ("number", i), ex(f"a[me + {i}] * min({i}, a[{i}])"),
                               ex(f"{i} < pick(me, {i}, {i})")),), ()) for i in (0, 1)])
        self.check(["for i in 5", "do", "step a[me] := i", "while a[i] + lanes < i", "end"],
                   one("5", (0, ex("a[5] + lanes < 5"))))

    def test_only_names_are_replaced(self):
        lines = ["for i in 5", "step b[me] := b[i] + me", "end"]
        self.check(lines, ("", (("b", ("name", "me"), ex("b[5] + me"), None),), ()))

    def test_do_blocks(self):
        self.check(["do", "step a[me] := 1", "while a[0]"], one("1", (0, ex("a[0]"))))
        self.check(["step a[me] := 0", "do", "step a[me] := 1", "step a[me] := 2", "while a[0]", "step a[me] := 3"],
                   one("0"), one("1"), one("2", (1, ex("a[0]"))), one("3"))

    def test_do_blocks_that_close_with_one_step(self):
        self.check(["do", "step a[me] := 1", "do", "step a[me] := 2", "do", "step a[me] := 3", "while 1", "while 2",
                    "while 3"],
                   one("1"), one("2"), one("3", (2, ex("1")), (1, ex("2")), (0, ex("3"))))
        self.check(["do", "do", "step a[me] := 1", "while 1", "while 2"], one("1", (0, ex("1")), (0, ex("2"))))

    def test_do_blocks_side_by_side(self):
        self.check(["do", "do", "step a[me] := 1", "while 1", "do", "step a[me] := 2", "while 2", "while 3"],
                   one("1", (0, ex("1"))), one("2", (1, ex("2")), (0, ex("3"))))

    def test_do_blocks_in_for_blocks(self):
        self.check(["for i in 7 8", "do", "step a[me] := i", "step a[me] := 1", "while b[i]", "end"],
                   one("7"), one("1", (0, ex("b[7]"))), one("8"), one("1", (2, ex("b[8]"))))

    def test_for_blocks_in_do_blocks(self):
        self.check(["do", "step a[me] := 0", "for i in 7 8", "step a[me] := i", "end", "while 5"],
                   one("0"), one("7"), one("8", (0, ex("5"))))

    def test_blocks_of_both_kinds_within_one_another(self):
        self.check(["do", "for i in 1 2", "do", "for j in 3 4", "step a[me] := i + j", "end", "while i", "end",
                    "while a[0]"],
                   one("1 + 3"), one("1 + 4", (0, ex("1"))), one("2 + 3"),
                   one("2 + 4", (2, ex("2")), (0, ex("a[0]"))))

    def test_names_used_again(self):
        self.check(["for i in 1", "step a[me] := i", "end", "for i in 2", "step a[me] := i", "end"], one("1"), one("2"))

    def test_by_name(self):
        self.assertEqual(flat_steps(program=program(*HEAD, "step a[me] := 1")), (one("1"),))


class NextStep(unittest.TestCase):
    def check(self, made, index, wanted, **arrays):
        data = data_of(made, arrays)
        for passed in (data, list(data)):
            found = check_unchanged(self, next_step, made, index, passed)
            self.assertEqual(found, wanted)
            self.assertIs(type(found), int)

    def test_without_closes(self):
        made = program(*HEAD, "step a[me] := 1", "step a[me] := 2")
        self.check(made, 0, 1, a=[1, 1, 1, 1])
        self.check(made, 1, 2)

    def test_one_pair(self):
        made = program(*HEAD, "step a[me] := 0", "do", "step a[me] := 1", "step a[me] := 2", "while a[1]",
                       "step a[me] := 3")
        self.check(made, 1, 2, a=[0, 1])
        self.check(made, 2, 3)
        self.check(made, 2, 3, a=[1, 0, 1, 1])
        for number in (1, 2, -1, LIMIT, -LIMIT):
            self.check(made, 2, 1, a=[0, number])

    def test_the_end_of_the_program(self):
        made = program(*HEAD, "step a[me] := 0", "do", "step a[me] := 1", "while a[1] < 0")
        self.check(made, 1, 2)
        self.check(made, 1, 1, a=[0, -1])

    def test_several_pairs(self):
        made = program(*HEAD, "do", "step a[me] := 1", "do", "step a[me] := 2", "do", "step a[me] := 3", "while a[0]",
                       "while a[1]", "while a[2]")
        self.check(made, 2, 3)
        self.check(made, 2, 2, a=[1, 0, 0])
        self.check(made, 2, 1, a=[0, 1, 0])
        self.check(made, 2, 0, a=[0, 0, 1])
        self.check(made, 2, 2, a=[1, 1, 1])
        self.check(made, 2, 1, a=[0, -5, 1])
        self.check(made, 2, 2, a=[-5, 0, 1])

    def test_conditions_know_lanes_and_numbers_of_blocks(self):
        made = program(*HEAD, "for i in 1 2", "do", "step a[me] := i", "while i * lanes < a[b[0]]", "end")
        self.check(made, 0, 1, a=[4])
        self.check(made, 0, 0, a=[5])
        self.check(made, 1, 2, a=[8])
        self.check(made, 1, 1, a=[9])
        self.check(made, 1, 1, a=[0, 9], b=[1])

    def test_by_name(self):
        made = program(*HEAD, "step a[me] := 1")
        self.assertEqual(next_step(program=made, index=0, data=(0,) * 6), 1)


if __name__ == "__main__":
    unittest.main()
