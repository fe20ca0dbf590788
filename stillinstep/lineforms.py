"""The forms that the lines of a program have, each line looked at by itself."""

from stillinstep.errors import BadExpression, BadLine
from stillinstep.reading import expression_of
from stillinstep.tokens import is_number, is_plain_word, is_word, split_at

RULES = ("first", "sum", "most", "least")
RESERVED_WORDS = (
    "lanes", "me", "array", "step", "for", "in", "do", "end", "while", "when", "first", "sum", "most", "least",
    "div", "mod", "min", "max", "pick", "nth",
)


def lanes_form(line, tokens):
    """("lanes", number)"""
    if len(tokens) != 1 or not is_number(tokens[0]):
        raise BadLine(line)
    return ("lanes", int(tokens[0]))


def array_form(line, tokens):
    """("array", name, size)"""
    if len(tokens) != 2 or not is_free_name(tokens[0]) or not is_number(tokens[1]):
        raise BadLine(line)
    return ("array", tokens[0], int(tokens[1]))


def step_form(line, tokens):
    """("step", rule, assignments), the rule being "" if there is none"""
    rule = ""
    if len(tokens) > 1 and tokens[0] in RULES and tokens[1] != "[":
        rule = tokens[0]
        tokens = tokens[1:]
    assignments = [assignment_in(line, piece) for piece in split_at(tokens, ";")]
    return ("step", rule, tuple(assignments))


def for_form(line, tokens):
    """("for", name, numbers)"""
    if len(tokens) < 3 or not is_free_name(tokens[0]) or tokens[1] != "in":
        raise BadLine(line)
    if not all([is_number(token) for token in tokens[2:]]):
        raise BadLine(line)
    return ("for", tokens[0], tuple([int(token) for token in tokens[2:]]))


def end_form(line, tokens):
    """("end",)"""
    if tokens != []:
        raise BadLine(line)
    return ("end",)


def do_form(line, tokens):
    """("do",)"""
    if tokens != []:
        raise BadLine(line)
    return ("do",)


def while_form(line, tokens):
    """("while", expression)"""
    return ("while", expression_in(line, tokens))


FORMS = {
    "lanes": lanes_form,
    "array": array_form,
    "step": step_form,
    "for": for_form,
    "end": end_form,
    "do": do_form,
    "while": while_form,
}


def form_of(line, tokens):
    """What the tokens of a line say; the line is its number, for BadLine(line)."""
    if tokens is None or tokens[0] not in FORMS:
        raise BadLine(line)
    form = FORMS[tokens[0]]
    return form(line, tokens[1:])


def is_free_name(token):
    """Whether a token is a word that may be the name of an array or a for block."""
    return is_word(token) and token not in RESERVED_WORDS


def assignment_in(line, tokens):
    """(array, place, value, when), when being None if there is none"""
    sides = split_at(tokens, ":=")
    if len(sides) != 2:
        raise BadLine(line)
    target, source = sides
    if len(target) < 3 or not is_plain_word(target[0]) or target[1] != "[" or target[-1] != "]":
        raise BadLine(line)
    place = expression_in(line, target[2:-1])
    values = split_at(source, "when")
    if len(values) > 2:
        raise BadLine(line)
    when = expression_in(line, values[1]) if len(values) == 2 else None
    return (target[0], place, expression_in(line, values[0]), when)


def expression_in(line, tokens):
    """The expression that consists of these tokens of a line."""
    try:
        return expression_of(tokens, "")
    except BadExpression:
        raise BadLine(line) from None
