"""Points 6, 7 and 11: the value of an expression and its words."""

import unittest

from helpers import check_plain, check_unchanged, ex
from stillinstep.clipping import LIMIT
from stillinstep.expressions import value_of, words_of

NUMBERS = (0, 1, 2, 3, 7, -1, -2, -3, -7, 999999, -999999, LIMIT - 1, 1 - LIMIT, LIMIT, -LIMIT)


def op_value(sign, left, right):
    """The value of left sign right, for numbers of both signs."""
    return value_of(("op", sign, ("name", "x"), ("name", "y")), {"x": left, "y": right}, {})


def array_value(text, **arrays):
    """The value of an expression with these arrays and no names."""
    return value_of(ex(text), {}, arrays)


def floor_div(left, right):
    """The quotient rounded down, worked out without Python's own."""
    quotient = abs(left) // abs(right)
    if (left < 0) == (right < 0):
        return quotient
    return -quotient - (1 if quotient * abs(right) != abs(left) else 0)


class Values(unittest.TestCase):
    def test_number_and_name(self):
        self.assertEqual(value_of(("number", LIMIT), {}, {}), LIMIT)
        self.assertEqual(value_of(("name", "a"), {"a": -4, "b": 5}, {"a": [9]}), -4)

    def test_sums_differences_and_products_are_clipped(self):
        for left in NUMBERS:
            for right in NUMBERS:
                for sign, exact in (("+", left + right), ("-", left - right), ("*", left * right)):
                    wanted = min(LIMIT, max(-LIMIT, exact))
                    with self.subTest(f"{left} {sign} {right}"):
                        self.assertEqual(op_value(sign, left, right), wanted)

    def test_results_at_and_beyond_the_limit(self):
        self.assertEqual(op_value("+", LIMIT - 1, 1), LIMIT)
        self.assertEqual(op_value("+", LIMIT, 1), LIMIT)
        self.assertEqual(op_value("-", 1 - LIMIT, 1), -LIMIT)
        self.assertEqual(op_value("-", -LIMIT, 1), -LIMIT)
        self.assertEqual(op_value("*", 10 ** 6, 10 ** 6), LIMIT)
        self.assertEqual(op_value("*", 10 ** 6, -10 ** 6 - 1), -LIMIT)

    def test_each_op_is_clipped_by_itself(self):
        names = {"top": LIMIT}
        self.assertEqual(value_of(ex("top + 5 - 5"), names, {}), LIMIT - 5)
        self.assertEqual(value_of(ex("0 - top - 5 + 5"), names, {}), 5 - LIMIT)
        self.assertEqual(value_of(ex("top * top div 2"), names, {}), LIMIT // 2)

    def test_div_rounds_down_and_mod_fits_it(self):
        for left in NUMBERS:
            for right in NUMBERS:
                with self.subTest(f"{left} and {right}"):
                    if right == 0:
                        self.assertEqual(op_value("div", left, right), 0)
                        self.assertEqual(op_value("mod", left, right), 0)
                    else:
                        quotient = floor_div(left, right)
                        self.assertEqual(op_value("div", left, right), quotient)
                        self.assertEqual(op_value("mod", left, right), left - right * quotient)

    def test_div_and_mod_by_hand(self):
        cases = ((7, 2, 3, 1), (-7, 2, -4, 1), (7, -2, -4, -1), (-7, -2, 3, -1), (6, 3, 2, 0), (-6, 3, -2, 0))
        for left, right, quotient, rest in cases:
            self.assertEqual((op_value("div", left, right), op_value("mod", left, right)), (quotient, rest))
        self.assertEqual(op_value("mod", 1, -LIMIT), 1 - LIMIT)
        self.assertEqual(op_value("mod", -1, LIMIT), LIMIT - 1)
        self.assertEqual(op_value("div", -1, LIMIT), -1)

    def test_comparisons(self):
        for left in NUMBERS:
            for right in NUMBERS:
                wanted = {"<": left < right, "<=": left <= right, ">": left > right, ">=": left >= right,
                          "=": left == right, "!=": left != right}
                for sign, holds in wanted.items():
                    value = op_value(sign, left, right)
                    with self.subTest(f"{left} {sign} {right}"):
                        self.assertEqual(value, 1 if holds else 0)
                        self.assertIs(type(value), int)

    def test_reads(self):
        cells = [5, 6, 7]
        for place, wanted in ((0, 5), (1, 6), (2, 7), (3, 0), (4, 0), (-1, 0), (-2, 0), (-3, 0), (-4, 0),
                              (LIMIT, 0), (-LIMIT, 0)):
            for array in (cells, tuple(cells)):
                with self.subTest(place):
                    self.assertEqual(value_of(ex("a[p]"), {"p": place}, {"a": array}), wanted)

    def test_reads_of_an_empty_array(self):
        for place in (0, 1, -1):
            self.assertEqual(value_of(ex("a[p]"), {"p": place}, {"a": []}), 0)
            self.assertEqual(value_of(ex("a[p]"), {"p": place}, {"a": ()}), 0)

    def test_reads_within_reads_and_equal_words(self):
        self.assertEqual(value_of(ex("a[b[a]]"), {"a": 1}, {"a": [4, 5, 6], "b": [0, 2]}), 6)

    def test_pick(self):
        for chooser, wanted in ((1, 10), (-1, 10), (LIMIT, 10), (0, 20)):
            self.assertEqual(value_of(ex("pick(c, 10, 20)"), {"c": chooser}, {}), wanted)

    def test_min_and_max(self):
        for left, right in ((1, 2), (2, 1), (-1, -2), (3, 3), (-LIMIT, LIMIT)):
            names = {"x": left, "y": right}
            self.assertEqual(value_of(ex("min(x, y)"), names, {}), left if left < right else right)
            self.assertEqual(value_of(ex("max(x, y)"), names, {}), right if left < right else left)

    def test_nth(self):
        place = [0, 1, 0, -2, 0]
        for number, wanted in ((0, 0), (1, 2), (2, 4), (3, -1), (LIMIT, -1), (-1, -1), (-3, -1), (-LIMIT, -1)):
            for array in (place, tuple(place)):
                with self.subTest(number):
                    self.assertEqual(value_of(ex("nth(k)"), {"k": number}, {"place": array}), wanted)

    def test_nth_where_there_is_no_zero(self):
        self.assertEqual(array_value("nth(0)", place=[]), -1)
        self.assertEqual(array_value("nth(0)", place=[1, -1]), -1)

    def test_nth_looks_at_place_alone(self):
        self.assertEqual(array_value("nth(0)", a=[0, 0], place=[3, 0]), 1)

    def test_depth_of_thirteen_has_a_value(self):
        expression = ("name", "x")
        for _ in range(12):
            expression = ("op", "+", expression, ("number", 1))
        self.assertEqual(value_of(expression, {"x": 1}, {}), 13)

    def test_what_is_passed_stays_and_by_name(self):
        expression = ex("pick(a[me] < nth(1), max(a[0], 2), a[1])")
        arrays = {"a": [1, 2], "place": [0, 0]}
        self.assertEqual(check_unchanged(self, value_of, expression, {"me": 1}, arrays), 2)
        self.assertEqual(value_of(expression=expression, names={"me": 0}, arrays=arrays), 2)


class Words(unittest.TestCase):
    def test_words(self):
        self.assertEqual(words_of(ex("b[me] + a[b[x]] * min(me, pick(y, max(1, 2), a[0]))")),
                         (("me", "x", "y"), ("a", "b"), ("max", "min", "pick")))

    def test_no_words(self):
        self.assertEqual(words_of(ex("1 + 2")), ((), (), ()))
        self.assertEqual(words_of(ex("7")), ((), (), ()))

    def test_order_is_that_of_strings(self):
        self.assertEqual(words_of(ex("b + a_ + a1 + ab + a + a10 + a2"))[0],
                         ("a", "a1", "a10", "a2", "a_", "ab", "b"))

    def test_one_word_as_name_and_array(self):
        self.assertEqual(words_of(ex("a[a]")), (("a",), ("a",), ()))

    def test_nth_and_place(self):
        self.assertEqual(words_of(ex("nth(me)")), (("me",), (), ("nth",)))
        self.assertEqual(words_of(ex("nth(me) + place[0]")), (("me",), ("place",), ("nth",)))
        self.assertEqual(words_of(ex("nth(place[1])")), ((), ("place",), ("nth",)))
        self.assertEqual(words_of(ex("nth(place)")), (("place",), (), ("nth",)))

    def test_tuples_and_what_is_passed(self):
        expression = ex("min(a[x], nth(b[y])) < 3")
        check_plain(self, check_unchanged(self, words_of, expression))
        self.assertIs(type(words_of(expression=expression)), tuple)


if __name__ == "__main__":
    unittest.main()
