"""From a text to an expression."""

from stillinstep.errors import BadExpression
from stillinstep.tokens import is_number, is_plain_word, tokens_of

ARGUMENTS = {"min": 2, "max": 2, "pick": 3, "nth": 1}
COMPARISONS = ("<", "<=", ">", ">=", "=", "!=")
MOST_OPEN = 12
MOST_DEEP = 12
# A space is never a token, so this one differs from all of them.
END = " "


def read_expression(text):
    """The expression of a text; raises BadExpression(text) if it is not that of one."""
    tokens = tokens_of(text)
    if tokens is None:
        raise BadExpression(text)
    return expression_of(tokens, text)


def expression_of(tokens, text):
    """The expression that consists of all these tokens; raises BadExpression(text)."""
    # Asked before the reader begins, which goes as deep as the brackets do.
    if _most_open(tokens) > MOST_OPEN:
        raise BadExpression(text)
    reader = ExpressionReader(tokens, text)
    expression, _ = reader.read_whole()
    reader.pass_by(END)
    return expression


def _most_open(tokens):
    most = 0
    still = 0
    for token in tokens:
        if token in ("(", "["):
            still += 1
            most = max(most, still)
        elif token in (")", "]"):
            still -= 1
    return most


class ExpressionReader:
    """Goes through tokens; what it reads are pairs of an expression and its depth."""

    def __init__(self, tokens, text):
        self.tokens = tokens + [END]
        self.text = text
        self.at = 0

    def read_whole(self):
        """An expression: a sum, or a comparison of two sums."""
        left = self.read_sum()
        if self.tokens[self.at] in COMPARISONS:
            sign = self.take()
            return self.joined(sign, left, self.read_sum())
        return left

    def read_sum(self):
        """Products joined by + and -."""
        left = self.read_product()
        while self.tokens[self.at] in ("+", "-"):
            sign = self.take()
            left = self.joined(sign, left, self.read_product())
        return left

    def read_product(self):
        """Atoms joined by *, div and mod."""
        left = self.read_atom()
        while self.tokens[self.at] in ("*", "div", "mod"):
            sign = self.take()
            left = self.joined(sign, left, self.read_atom())
        return left

    def read_atom(self):
        """A number, a name, a read, a call, or an expression in parentheses."""
        token = self.take()
        if is_number(token):
            return ("number", int(token)), 1
        if token == "(":
            inside = self.read_whole()
            self.pass_by(")")
            return inside
        if token in ARGUMENTS:
            return self.read_call(token)
        if not is_plain_word(token):
            raise BadExpression(self.text)
        if self.tokens[self.at] == "[":
            return self.read_read(token)
        return ("name", token), 1

    def read_read(self, array):
        """The place of a read and its brackets."""
        self.pass_by("[")
        place, depth = self.read_whole()
        self.pass_by("]")
        return self.made(("read", array, place), depth + 1)

    def read_call(self, word):
        """The arguments of a call and its parentheses."""
        sign_before = "("
        arguments = []
        depth = 1
        for _ in range(ARGUMENTS[word]):
            self.pass_by(sign_before)
            sign_before = ","
            argument, argument_depth = self.read_whole()
            arguments.append(argument)
            depth = max(depth, argument_depth + 1)
        self.pass_by(")")
        return self.made(("call", word, tuple(arguments)), depth)

    def joined(self, sign, left, right):
        """The op with this sign over two that were read."""
        return self.made(("op", sign, left[0], right[0]), max(left[1], right[1]) + 1)

    def made(self, expression, depth):
        """The pair, unless it is too deep: so even a long row of sums is never built."""
        if depth > MOST_DEEP:
            raise BadExpression(self.text)
        return expression, depth

    def take(self):
        """The next token, which is then behind the reader."""
        token = self.tokens[self.at]
        self.at += 1
        return token

    def pass_by(self, wanted):
        """Takes the next token, which must be the wanted one."""
        if self.take() != wanted:
            raise BadExpression(self.text)
