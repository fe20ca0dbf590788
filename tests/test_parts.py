"""Points 26 to 30: lines, arrays of a step, steps that are surely apart, and parts."""

import random
import unittest

from helpers import check_plain, check_unchanged, ex, program
from stillinstep.clipping import LIMIT
from stillinstep.expressions import value_of
from stillinstep.parts import arrays_read, arrays_written, code_of, line_of, parts_of, surely_apart

HEAD = ("lanes 4", "array a 4", "array b 4", "array c 4")
ONE_LANE = ("lanes 1", "array a 4", "array b 4", "array c 4")


class Lines(unittest.TestCase):
    def check(self, text, wanted, lanes=4):
        with self.subTest(text):
            line = check_unchanged(self, line_of, ex(text), lanes)
            self.assertEqual(line, wanted)
            check_plain(self, line)

    def test_numbers_and_names(self):
        self.check("0", (0, 0))
        self.check("17", (0, 17))
        self.check("me", (1, 0))
        for lanes in (1, 2, 31, 32):
            self.check("lanes", (0, lanes), lanes)
        for word in ("x", "a", "place", "left"):
            self.check(word, None)

    def test_sums_and_differences(self):
        self.check("me + 3", (1, 3))
        self.check("3 + me", (1, 3))
        self.check("me + me + lanes", (2, 4))
        self.check("3 - me", (-1, 3))
        self.check("me - 3", (1, -3))
        self.check("me - me", (0, 0))
        self.check("1 - (me - lanes)", (-1, 5))

    def test_products(self):
        self.check("3 * me", (3, 0))
        self.check("me * 3", (3, 0))
        self.check("(me + 2) * 3", (3, 6))
        self.check("3 * (2 - me)", (-3, 6))
        self.check("lanes * (me + 1)", (4, 4))
        self.check("(me - lanes) * (1 - 3)", (-2, 8))
        self.check("2 * 3", (0, 6))
        self.check("0 * me", (0, 0))
        self.check("me * (me - me)", (0, 0))
        self.check("me * me", None)
        self.check("(me + 1) * (me - 1)", None)
        self.check("2 * (me - 1) + lanes", (2, 2))

    def test_all_other_expressions(self):
        for text in ("me div 1", "6 div 2", "me mod 4", "5 mod 3", "me < 1", "1 <= 1", "me > 1", "1 >= 2", "me = me",
                     "1 != 1", "a[me]", "a[0]", "min(me, me)", "max(1, 2)", "pick(1, me, me)", "nth(0)"):
            self.check(text, None)

    def test_parts_that_give_none(self):
        for text in ("me + x", "x - me", "0 * x", "a[0] * 0", "(1 < 2) + me", "me + (4 mod 2)", "2 * min(1, 2)"):
            self.check(text, None)

    def test_the_bound_of_offsets(self):
        self.check("1000", (0, 1000))
        self.check("1001", None)
        self.check(str(LIMIT), None)
        self.check("me + 1000", (1, 1000))
        self.check("me + 1001", None)
        self.check("me + 999 + 1", (1, 1000))
        self.check("me + 1000 + 1", None)
        self.check("0 - 1000", (0, -1000))
        self.check("me - 1000", (1, -1000))
        self.check("me - 1000 - 1", None)
        self.check("10 * 100", (0, 1000))
        self.check("7 * 143", None)
        self.check("(0 - 7) * 143", None)
        self.check("lanes * 250", (0, 1000))
        self.check("lanes * 251", None)

    def test_the_bound_of_slopes(self):
        self.check("1000 * me", (1000, 0))
        self.check("1000 * me + me", None)
        self.check("0 - 1000 * me", (-1000, 0))
        self.check("0 - 1000 * me - me", None)
        self.check("(500 * me) * 2", (1000, 0))
        self.check("(501 * me) * 2", None)
        self.check("(me + me) * 500", (1000, 0))
        self.check("(me + me + me) * 334", None)

    def test_inner_parts_beyond_the_bound(self):
        self.check("me + 1001 - 1001", None)
        self.check("me + (1001 - 1000)", None)
        self.check("1000 + 1 - 1", None)
        self.check("0 * 1001", None)
        self.check("0 * (1000 * me + me)", None)
        self.check("1000 * me + me - me", None)
        self.check("me + (1000 - 1000)", (1, 0))

    def test_a_line_tells_the_value(self):
        chance = random.Random(8)
        atoms = ["me", "lanes", "0", "1", "2", "3", "30"]
        found = 0
        for _ in range(3000):
            text = chance.choice(atoms)
            for _ in range(chance.randrange(5)):
                sign = chance.choice("+-*")
                text = f"({text}) {sign} {chance.choice(atoms)}" if chance.random() < 0.5 else f"1 {sign} ({text})"
            lanes = chance.randrange(1, 33)
            line = line_of(ex(text), lanes)
            if line is not None:
                found += 1
                for lane in range(lanes):
                    self.assertEqual(value_of(ex(text), {"me": lane, "lanes": lanes}, {}), line[0] * lane + line[1])
        self.assertGreater(found, 1000)

    def test_by_name(self):
        self.assertEqual(line_of(expression=ex("me"), lanes=1), (1, 0))


class Arrays(unittest.TestCase):
    def check(self, line, read, written):
        made = program(*HEAD, line)
        for function, wanted in ((arrays_read, read), (arrays_written, written)):
            found = check_unchanged(self, function, made, 0)
            self.assertEqual(found, tuple(wanted))
            check_plain(self, found)
            self.assertEqual(function(program=made, index=0), found)

    def test_arrays(self):
        self.check("step a[me] := 1", "", "a")
        self.check("step a[me] := b[0]", "b", "a")
        self.check("step first a[c[me]] := 1", "c", "a")
        self.check("step a[me] := 1 when b[c[me]]", "bc", "a")
        self.check("step a[me] := a[me]", "a", "a")
        self.check("step first c[a[0]] := b[0] ; a[b[0]] := 1 ; c[0] := 2", "ab", "ac")
        self.check("step c[me] := c[0] + b[0] ; b[me] := a[0] ; a[me] := 1 when c[1]", "abc", "abc")

    def test_conditions_of_closes_are_not_read(self):
        made = program(*HEAD, "do", "step a[me] := b[0]", "while c[0] + a[0]")
        self.assertEqual(arrays_read(made, 0), ("b",))
        self.assertEqual(arrays_written(made, 0), ("a",))

    def test_a_later_flat_step(self):
        made = program(*HEAD, "step a[me] := b[0]", "step c[me] := a[0]")
        self.assertEqual((arrays_read(made, 1), arrays_written(made, 1)), (("a",), ("c",)))

    def test_order_is_that_of_strings(self):
        made = program("lanes 1", "array b 1", "array a_ 1", "array a1 1", "array ab 1", "array a 1",
                       "step ab[0] := b[0] + a_[0] + a1[0] + ab[0] + a[0] ; a_[0] := 1 ; a1[0] := 1")
        self.assertEqual(arrays_read(made, 0), ("a", "a1", "a_", "ab", "b"))
        self.assertEqual(arrays_written(made, 0), ("a1", "a_", "ab"))


class Apart(unittest.TestCase):
    def check(self, head, line, wanted):
        made = program(*head, line)
        with self.subTest(line):
            self.assertIs(check_unchanged(self, surely_apart, made, 0), wanted)
            self.assertIs(surely_apart(program=made, index=0), wanted)

    def test_several_lanes(self):
        self.check(HEAD, "step a[me] := 1", True)
        self.check(HEAD, "step a[3 - me] := 1 ; b[2 * me + 1] := a[0] when b[0]", True)
        self.check(HEAD, "step a[1000 * me] := 1", True)
        for place in ("0", "lanes", "me - me", "0 * me", "me * me", "me mod 4", "me div 1", "a[me]", "min(me, 3)",
                      "1001 * me", "me + 1001", "me < 2"):
            self.check(HEAD, f"step first a[{place}] := 1", False)
            self.check(HEAD, f"step first b[me] := 1 ; a[{place}] := 1", False)
            self.check(HEAD, f"step first a[{place}] := 1 when 0", False)

    def test_arrays_named_twice(self):
        for head in (HEAD, ONE_LANE):
            self.check(head, "step first a[me] := 1 ; a[me + 1] := 1", False)
            self.check(head, "step first a[me] := 1 ; b[me] := 1 ; a[me] := 1 when 0", False)
            self.check(head, "step a[me] := 1 ; b[me] := 1 ; c[me] := 1", True)

    def test_one_lane(self):
        for place in ("0", "lanes", "me * me", "a[me]", "1001", "me mod 2"):
            self.check(ONE_LANE, f"step a[{place}] := 1 ; b[0] := 1", True)
            self.check(("lanes 2", *HEAD[1:]), f"step first a[{place}] := 1 ; b[0] := 1", False)

    def test_a_rule_does_not_matter(self):
        for rule in ("first", "sum", "most", "least"):
            self.check(HEAD, f"step {rule} a[me] := 1", True)
            self.check(HEAD, f"step {rule} a[0] := 1", False)

    def test_a_later_flat_step(self):
        made = program(*HEAD, "for i in 0 1", "step first a[i * me] := 1", "end")
        self.assertEqual([surely_apart(made, 0), surely_apart(made, 1)], [False, True])


class Parts(unittest.TestCase):
    def check(self, line, wanted):
        made = program(*HEAD, line)
        with self.subTest(line):
            kinds = check_unchanged(self, parts_of, made, 0)
            self.assertEqual(kinds, wanted)
            check_plain(self, kinds)
            self.assertEqual(code_of(made), tuple((0, kind) for kind in wanted))
            self.assertEqual(parts_of(program=made, index=0), wanted)

    def test_steps_with_a_rule(self):
        for rule in ("first", "sum", "most", "least"):
            self.check(f"step {rule} a[me] := 1", ("look", "settle", "put"))
            self.check(f"step {rule} a[0] := a[1]", ("look", "settle", "put"))

    def test_direct_steps(self):
        self.check("step a[me] := 1", ("direct",))
        self.check("step a[me] := b[me] ; c[me] := b[b[me]] when b[0]", ("direct",))

    def test_steps_that_look_first(self):
        self.check("step a[me] := a[me]", ("look", "put"))
        self.check("step a[me] := b[0] ; b[me] := 1", ("look", "put"))
        self.check("step a[me] := 1 when a[0]", ("look", "put"))
        self.check("step a[me] := 1 ; b[me] := 1 when c[a[0]]", ("look", "put"))

    def test_an_array_read_in_a_place_alone(self):
        made = program(*ONE_LANE, "step a[a[0]] := 1")
        self.assertEqual(parts_of(made, 0), ("look", "put"))
        made = program(*ONE_LANE, "step a[b[0]] := 1 ; b[0] := 2")
        self.assertEqual(parts_of(made, 0), ("look", "put"))
        made = program(*ONE_LANE, "step a[b[0]] := 1")
        self.assertEqual(parts_of(made, 0), ("direct",))

    def test_an_array_read_in_a_condition_alone(self):
        made = program(*HEAD, "do", "step a[me] := 1", "while a[0]")
        self.assertEqual(parts_of(made, 0), ("direct",))

    def test_code(self):
        made = program(*HEAD, "step a[me] := 1", "for i in 1 2", "step sum b[i] := me", "do", "step a[me] := a[i]",
                       "while 0", "end")
        code = check_unchanged(self, code_of, made)
        self.assertEqual(code, ((0, "direct"), (1, "look"), (1, "settle"), (1, "put"), (2, "look"), (2, "put"),
                                (3, "look"), (3, "settle"), (3, "put"), (4, "look"), (4, "put")))
        check_plain(self, code)
        self.assertEqual(code_of(program=made), code)
        self.assertEqual(parts_of(made, 3), ("look", "settle", "put"))


if __name__ == "__main__":
    unittest.main()
