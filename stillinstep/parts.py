"""The parts in which the machine performs a flat step."""

from stillinstep.expressions import words_of
from stillinstep.flat import flat_steps

MOST_IN_LINE = 1000


def line_of(expression, lanes):
    """The pair (slope, offset) of an expression that is a line in me, otherwise None."""
    kind = expression[0]
    line = None
    if kind == "number":
        line = (0, expression[1])
    elif expression == ("name", "me"):
        line = (1, 0)
    elif expression == ("name", "lanes"):
        line = (0, lanes)
    elif kind == "op":
        left = line_of(expression[2], lanes)
        right = line_of(expression[3], lanes)
        if left is not None and right is not None:
            line = _joined_line(expression[1], left, right)
    if line is None or max(abs(line[0]), abs(line[1])) > MOST_IN_LINE:
        return None
    return line


def arrays_read(program, index):
    """The ascending names of the arrays that a flat step reads."""
    _, assignments, _ = flat_steps(program)[index]
    return _read_by(assignments)


def arrays_written(program, index):
    """The ascending names of the arrays to which a flat step assigns."""
    _, assignments, _ = flat_steps(program)[index]
    return _written_by(assignments)


def surely_apart(program, index):
    """Whether no two wishes of a flat step can name one cell, as far as lines tell."""
    _, assignments, _ = flat_steps(program)[index]
    return apart_assignments(assignments, program.lanes)


def apart_assignments(assignments, lanes):
    """What surely_apart returns, for the assignments of a flat step."""
    if len(_written_by(assignments)) < len(assignments):
        return False
    return lanes == 1 or all([_is_sloping(place, lanes) for _, place, _, _ in assignments])


def parts_of(program, index):
    """The kinds of the parts of a flat step, in order."""
    return _kinds_of(flat_steps(program)[index])


def code_of(program):
    """The pairs (index, kind) of all parts of all flat steps, in order."""
    code = []
    for index, step in enumerate(flat_steps(program)):
        for kind in _kinds_of(step):
            code.append((index, kind))
    return tuple(code)


def _joined_line(sign, left, right):
    if sign == "+":
        return (left[0] + right[0], left[1] + right[1])
    if sign == "-":
        return (left[0] - right[0], left[1] - right[1])
    if sign == "*" and left[0] == 0:
        return (left[1] * right[0], left[1] * right[1])
    if sign == "*" and right[0] == 0:
        return (left[0] * right[1], left[1] * right[1])
    return None


def _is_sloping(place, lanes):
    line = line_of(place, lanes)
    return line is not None and line[0] != 0


def _read_by(assignments):
    names = []
    for _, place, value, when in assignments:
        for expression in (place, value, when):
            if expression is not None:
                _, arrays, _ = words_of(expression)
                names.extend(arrays)
    return tuple(sorted(set(names)))


def _written_by(assignments):
    return tuple(sorted({array for array, _, _, _ in assignments}))


def _kinds_of(step):
    rule, assignments, _ = step
    if rule != "":
        return ("look", "settle", "put")
    written = _written_by(assignments)
    if any([name in written for name in _read_by(assignments)]):
        return ("look", "put")
    return ("direct",)
