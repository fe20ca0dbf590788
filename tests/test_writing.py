"""Point 10: the text of an expression has the fewest parentheses and reads back."""

import random
import unittest

from helpers import check_unchanged, ex
from stillinstep.clipping import LIMIT
from stillinstep.errors import BadExpression
from stillinstep.reading import read_expression
from stillinstep.writing import write_expression

COMPARISONS = ("<", "<=", ">", ">=", "=", "!=")
SUMS = ("+", "-")
PRODUCTS = ("*", "div", "mod")
SIGNS = COMPARISONS + SUMS + PRODUCTS
WORDS = ("a", "b", "me", "abcdefghijkl", "x_1", "first")


def any_expression(chance, depth):
    """An expression of at most this depth."""
    kind = chance.choice(("number", "name", "read", "op", "op", "op", "call")) if depth > 1 else "name"
    if kind == "number":
        return ("number", chance.choice((0, 1, 10, LIMIT)))
    if kind == "name":
        return ("name", chance.choice(WORDS))
    if kind == "read":
        return ("read", chance.choice(WORDS), any_expression(chance, depth - 1))
    if kind == "op":
        sign = chance.choice(SIGNS)
        return ("op", sign, any_expression(chance, depth - 1), any_expression(chance, depth - 1))
    word, arguments = chance.choice((("min", 2), ("max", 2), ("pick", 3), ("nth", 1)))
    return ("call", word, tuple(any_expression(chance, depth - 1) for _ in range(arguments)))


def without_one_pair(text):
    """The texts that lack one pair of parentheses that is not that of a call."""
    texts = []
    for start, sign in enumerate(text):
        if sign == "(" and (start == 0 or not text[start - 1].isalpha()):
            depth = 0
            for end in range(start, len(text)):
                depth += (text[end] == "(") - (text[end] == ")")
                if depth == 0:
                    break
            texts.append(text[:start] + text[start + 1:end] + text[end + 1:])
    return texts


class Writing(unittest.TestCase):
    def check(self, expression):
        """It reads back, and no pair of parentheses can be left out."""
        text = write_expression(expression)
        self.assertEqual(read_expression(text), expression)
        for shorter in without_one_pair(text):
            try:
                self.assertNotEqual(read_expression(shorter), expression)
            except BadExpression:
                pass

    def test_atoms(self):
        for text in ("0", "1000000000000", "a", "a[1]", "a[b[c]]", "min(a, 1)", "max(1, a)", "pick(a, b, c)",
                     "nth(a)", "a[b + 1]", "min(a + 1, b < c)", "nth(a mod b)", "a[b < c]"):
            self.assertEqual(write_expression(ex(text)), text)

    def test_spaces(self):
        self.assertEqual(write_expression(ex("a+b")), "a + b")
        self.assertEqual(write_expression(ex("a<=b")), "a <= b")
        self.assertEqual(write_expression(ex(" pick( a,b ,c [ 1 ]) ")), "pick(a, b, c[1])")

    def test_each_sign_under_each_sign(self):
        for outer in SIGNS:
            for inner in SIGNS:
                part = ("op", inner, ("name", "a"), ("name", "b"))
                in_parentheses = inner in COMPARISONS or (outer in PRODUCTS and inner in SUMS)
                left = ("op", outer, part, ("name", "c"))
                wanted = f"(a {inner} b) {outer} c" if in_parentheses else f"a {inner} b {outer} c"
                with self.subTest(wanted):
                    self.assertEqual(write_expression(left), wanted)
                    self.check(left)
                in_parentheses = (in_parentheses or (outer in SUMS and inner in SUMS)
                                  or (outer in PRODUCTS and inner in PRODUCTS))
                right = ("op", outer, ("name", "c"), part)
                wanted = f"c {outer} (a {inner} b)" if in_parentheses else f"c {outer} a {inner} b"
                with self.subTest(wanted):
                    self.assertEqual(write_expression(right), wanted)
                    self.check(right)

    def test_ops_in_places_and_arguments_stand_free(self):
        for sign in SIGNS:
            for text in (f"a[b {sign} c]", f"min(a {sign} b, b {sign} c)", f"nth(a {sign} b)",
                         f"pick(a {sign} b, 1, a {sign} c)"):
                self.assertEqual(write_expression(ex(text)), text)

    def test_the_deepest_expressions(self):
        for sign in SIGNS:
            left = right = ("name", "a")
            for _ in range(11):
                left = ("op", sign, left, ("name", "b"))
                right = ("op", sign, ("name", "b"), right)
            self.check(left)
            self.check(right)
        deep = ("name", "a")
        for _ in range(11):
            deep = ("call", "min", (deep, ("number", 1)))
        self.check(deep)

    def test_many_expressions_read_back(self):
        chance = random.Random(5)
        for _ in range(2000):
            self.check(any_expression(chance, chance.randrange(1, 6)))
        for _ in range(30):
            expression = any_expression(chance, 12)
            self.assertEqual(read_expression(write_expression(expression)), expression)

    def test_what_is_passed_and_by_name(self):
        self.assertEqual(check_unchanged(self, write_expression, ex("(a + 1) * 2")), "(a + 1) * 2")
        self.assertEqual(write_expression(expression=ex("(a)")), "a")


if __name__ == "__main__":
    unittest.main()
