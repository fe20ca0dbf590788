"""Points 3, 6, 8 and 9: the text of an expression and what is refused."""

import random
import unittest

from helpers import check_plain, check_raises
from stillinstep.clipping import LIMIT
from stillinstep.errors import BadExpression
from stillinstep.reading import read_expression

A = ("name", "a")
B = ("name", "b")
C = ("name", "c")
ONE = ("number", 1)


class Reading(unittest.TestCase):
    def reads(self, text, wanted):
        with self.subTest(text):
            self.assertEqual(read_expression(text), wanted)
            check_plain(self, read_expression(text))

    def refuses(self, text):
        with self.subTest(text[:60]):
            check_raises(self, BadExpression, {"text": text}, read_expression, text)

    def test_atoms(self):
        self.reads("0", ("number", 0))
        self.reads("10", ("number", 10))
        self.reads("a", A)
        self.reads("a[1]", ("read", "a", ONE))
        self.reads("min(a, 1)", ("call", "min", (A, ONE)))
        self.reads("max(1, a)", ("call", "max", (ONE, A)))
        self.reads("pick(a, b, c)", ("call", "pick", (A, B, C)))
        self.reads("nth(a)", ("call", "nth", (A,)))
        self.reads("(a)", A)

    def test_signs(self):
        for sign in ("+", "-", "*", "div", "mod", "<", "<=", ">", ">=", "=", "!="):
            self.reads(f"a {sign} b", ("op", sign, A, B))

    def test_left_association(self):
        for signs in (("+", "-"), ("*", "div", "mod")):
            for first in signs:
                for second in signs:
                    self.reads(f"a {first} b {second} c", ("op", second, ("op", first, A, B), C))

    def test_products_hold_tighter_than_sums_and_these_than_comparisons(self):
        for sign in ("+", "-"):
            for tight in ("*", "div", "mod"):
                self.reads(f"a {sign} b {tight} c", ("op", sign, A, ("op", tight, B, C)))
                self.reads(f"a {tight} b {sign} c", ("op", sign, ("op", tight, A, B), C))
                for loose in ("<", "<=", ">", ">=", "=", "!="):
                    self.reads(f"a {sign} b {loose} b {tight} c",
                               ("op", loose, ("op", sign, A, B), ("op", tight, B, C)))

    def test_parentheses(self):
        self.reads("a - (b - c)", ("op", "-", A, ("op", "-", B, C)))
        self.reads("(a - b) - c", ("op", "-", ("op", "-", A, B), C))
        self.reads("(a + b) * c", ("op", "*", ("op", "+", A, B), C))
        self.reads("((((a))))", A)
        self.reads("a[((1))]", ("read", "a", ONE))
        self.reads("min((a), (b))", ("call", "min", (A, B)))
        self.reads("(a < b) < c", ("op", "<", ("op", "<", A, B), C))
        self.reads("a < (b < c)", ("op", "<", A, ("op", "<", B, C)))
        self.reads("(a < b) + 1", ("op", "+", ("op", "<", A, B), ONE))
        self.reads("a[b < c]", ("read", "a", ("op", "<", B, C)))
        self.reads("nth(a = b)", ("call", "nth", (("op", "=", A, B),)))

    def test_free_spaces(self):
        self.reads("   a   +   1  ", ("op", "+", A, ONE))
        self.reads("a+1", ("op", "+", A, ONE))
        self.reads("a [ 1 ]", ("read", "a", ONE))
        self.reads(" min ( a , 1 ) ", ("call", "min", (A, ONE)))
        self.reads("pick(a,b,c)", ("call", "pick", (A, B, C)))
        self.reads("(a)div(b)", ("op", "div", A, B))
        self.reads("a[1]mod 1", ("op", "mod", ("read", "a", ONE), ONE))

    def test_comparisons_without_spaces(self):
        for sign in ("<", "<=", ">", ">=", "=", "!="):
            self.reads(f"a{sign}b", ("op", sign, A, B))
            self.reads(f"1{sign}1", ("op", sign, ONE, ONE))

    def test_the_longest_sign_is_taken(self):
        for text in ("a< =b", "a> =b", "a! =b", "a=<b", "a=>b", "a==b", "a<>b", "a<==b", "a!b", "a!"):
            self.refuses(text)

    def test_numbers_and_words_need_a_space_between_them(self):
        for text in ("adiv b", "a divb", "1div 2", "1 div2", "1a", "1_", "12ab", "a b", "1 2", "a 1", "1 a",
                     "a1 2", "01a"):
            self.refuses(text)
        self.reads("a1", ("name", "a1"))
        self.reads("a_1_", ("name", "a_1_"))

    def test_numbers(self):
        self.reads(str(LIMIT), ("number", LIMIT))
        self.reads(str(LIMIT - 1), ("number", LIMIT - 1))
        self.reads("999999999999", ("number", 999999999999))
        for text in (str(LIMIT + 1), "9999999999999", "2000000000000", "10000000000000", "00", "01", "007",
                     "0000000000000", "-1", "+1", "- 1", "1.5", "1_000", "a + " + str(LIMIT + 1)):
            self.refuses(text)

    def test_words(self):
        self.reads("abcdefghijkl", ("name", "abcdefghijkl"))
        self.reads("a12345678901", ("name", "a12345678901"))
        self.reads("abcdefghijkl[1]", ("read", "abcdefghijkl", ONE))
        for text in ("abcdefghijklm", "a123456789012", "abcdefghijklm[1]", "_", "_a", "A", "aB", "a.b", "a'", "#",
                     "a $ b", "a & b", "a / b", "~a", "{a}", '"a"', "!", ":", "?", "a\\b", "a^b", "a|b"):
            self.refuses(text)

    def test_words_of_programs_are_plain_words_here(self):
        for word in ("lanes", "me", "array", "step", "for", "in", "do", "end", "while", "first", "sum", "most",
                     "least", "place", "note"):
            self.reads(word, ("name", word))
            self.reads(f"{word}[1]", ("read", word, ONE))

    def test_words_that_may_not_be_names(self):
        for word in ("div", "mod", "min", "max", "pick", "nth", "when"):
            for text in (word, f"{word}[1]", f"a + {word}", f"{word} + a", f"a[{word}]", f"{word} {word}"):
                self.refuses(text)
        for text in ("when(1)", "div(1, 2)", "mod(1, 2)", "a when b", "a(1)", "lanes(1)"):
            self.refuses(text)

    def test_signs_of_lines(self):
        for text in ("a := b", "a; b", ":=", ";", "a :=", "a ;"):
            self.refuses(text)

    def test_comparisons_side_by_side(self):
        for first in ("<", "<=", ">", ">=", "=", "!="):
            for second in ("<", "<=", ">", ">=", "=", "!="):
                self.refuses(f"a {first} b {second} c")
        self.refuses("a < b + (c < 1) < 1")
        self.refuses("min(a < b < c, 1)")
        self.refuses("a[a < b < c]")

    def test_wrong_numbers_of_arguments(self):
        for word, wanted in (("min", 2), ("max", 2), ("pick", 3), ("nth", 1)):
            for number in range(6):
                text = f"{word}({', '.join('a' * number)})"
                if number == wanted:
                    self.reads(text, ("call", word, (A,) * number))
                else:
                    self.refuses(text)
        for text in ("min(a, )", "min(, a)", "min(a b)", "min(a,, b)", "min[a, b]", "nth()", "nth a", "pick(a, b; c)"):
            self.refuses(text)

    def test_unfinished_texts(self):
        for text in ("", " ", "     ", "a +", "+ a", "a + + b", "a *", "* a", "a div", "(", ")", "()", "(a", "a)",
                     "a[", "a]", "a[]", "[1]", "a[1", "a[1)", "(a]", "a[1]]", "((a)", "(a))", "a,b", ",", "a[1, 2]",
                     "a[1][1]", "(a)[1]", "1[1]", "min(a, b", "(a)(b)", "a < ", "< a", "a <", "-", "--a", "a - -b"):
            self.refuses(text)

    def test_newlines(self):
        for text in ("\n", "a\n", "\na", "a +\n1", "a\n+ 1", "min(a,\nb)"):
            self.refuses(text)

    def test_open_parentheses(self):
        self.reads("(" * 12 + "a" + ")" * 12, A)
        self.refuses("(" * 13 + "a" + ")" * 13)
        self.reads("1 + " + "(" * 12 + "a" + ")" * 12, ("op", "+", ONE, A))

    def test_open_brackets_of_all_kinds_are_counted_together(self):
        inner = "(" * 10 + "a" + ")" * 10
        self.reads(f"a[nth({inner})]", ("read", "a", ("call", "nth", (A,))))
        self.refuses(f"a[nth(({inner}))]")
        self.refuses(f"(a[nth({inner})])")
        self.refuses(f"a[a[nth({inner})]]")

    def test_closed_brackets_are_not_counted(self):
        eleven = "(" * 11 + "a" + ")" * 11
        self.reads(f"({eleven}) + ({eleven})", ("op", "+", A, A))
        self.reads(f"min({eleven}, {eleven})", ("call", "min", (A, A)))
        self.refuses(f"min(a, ({eleven}))")
        self.refuses(f"1 + min(({eleven}), a)")

    def test_depth_of_sums(self):
        read_expression(" + ".join(["a"] * 12))
        self.refuses(" + ".join(["a"] * 13))
        read_expression(" * ".join(["a"] * 12))
        self.refuses(" * ".join(["a"] * 13))
        read_expression(" + ".join(["a"] * 11) + " < a")
        self.refuses(" + ".join(["a"] * 12) + " < a")

    def test_depth_of_reads_and_calls(self):
        around = (("a[", "]"), ("nth(", ")"), ("min(", ", 1)"), ("min(1, ", ")"), ("max(", ", 1)"), ("max(1, ", ")"),
                  ("pick(", ", 1, 1)"), ("pick(1, ", ", 1)"), ("pick(1, 1, ", ")"))
        for before, behind in around:
            with self.subTest(before):
                read_expression(before * 11 + "a" + behind * 11)
                self.refuses(before * 12 + "a" + behind * 12)

    def test_depth_of_ops_on_the_right(self):
        read_expression("a - (" * 11 + "a" + ")" * 11)
        self.refuses("a - (" * 12 + "a" + ")" * 12)

    def test_parentheses_add_nothing_to_the_depth(self):
        text = "a"
        for _ in range(11):
            text = f"({text}) + 1"
        read_expression(text)
        read_expression(f"({text})")
        self.refuses(f"({text}) + 1")
        read_expression(f"(({' + '.join(['(a)'] * 12)}))")

    def test_very_long_texts(self):
        many = 100000
        for text in ("1" * many, "a" * many, "(" * many, "[" * many, "a[" * many, "nth(" * many, ")" * many,
                     "(" * many + "a" + ")" * many, "1+" * many + "1", "a*" * many + "a", "min(" * many,
                     "a " * many, "_" * many, "0" * many, "1" * 5000, "=" * many, "a<" * many + "a",
                     "min(1" + ",1" * many + ")", " " * many):
            self.refuses(text)
        self.reads(" " * many + "a" + " " * many, A)

    def test_wrong_texts_of_all_kinds_raise_no_other_error(self):
        chance = random.Random(9)
        tokens = ["a", "b", "1", "0", "+", "-", "*", "div", "mod", "min", "nth", "pick", "(", ")", "(", ")", "[", "]",
                  ",", "<", "<=", "!=", ":=", ";", "when", " ", "!", "\n"]
        good = 0
        for _ in range(20000):
            text = " ".join(chance.choice(tokens) for _ in range(chance.randrange(1, 8)))
            try:
                check_plain(self, read_expression(text))
                good += 1
            except BadExpression as error:
                self.assertEqual(error.text, text)
        self.assertGreater(good, 100)

    def test_by_name(self):
        self.assertEqual(read_expression(text="a"), A)


if __name__ == "__main__":
    unittest.main()
