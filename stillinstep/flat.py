"""The flat steps of a program: a row of steps with the do blocks over it."""

from stillinstep.expressions import value_of
from stillinstep.memory import arrays_in


def flat_steps(program):
    """The entries (rule, assignments, closes) of all steps of the row."""
    row = []
    _add_statements(row, program.body, {})
    return tuple(row)


def next_step(program, index, data):
    """The index of the flat step that follows when the memory is this one."""
    return step_behind(program, flat_steps(program), index, data)


def step_behind(program, steps, index, data):
    """What next_step returns, for who has the flat steps of the program already."""
    _, _, closes = steps[index]
    if closes == ():
        return index + 1
    names = {"lanes": program.lanes}
    arrays = arrays_in(program, data)
    for start, condition in closes:
        if value_of(condition, names, arrays) != 0:
            return start
    return index + 1


def _add_statements(row, body, numbers):
    for statement in body:
        if statement[0] == "step":
            _, rule, assignments = statement
            row.append((rule, _fill_assignments(assignments, numbers), ()))
        elif statement[0] == "for":
            _, name, values, inner = statement
            for value in values:
                _add_statements(row, inner, {**numbers, name: value})
        else:
            _add_do(row, statement, numbers)


def _add_do(row, statement, numbers):
    _, inner, condition = statement
    start = len(row)
    _add_statements(row, inner, numbers)
    # Blocks within this one have added their pairs already: the innermost stands first.
    rule, assignments, closes = row[-1]
    row[-1] = (rule, assignments, closes + ((start, _fill(condition, numbers)),))


def _fill_assignments(assignments, numbers):
    filled = []
    for array, place, value, when in assignments:
        new_when = None if when is None else _fill(when, numbers)
        filled.append((array, _fill(place, numbers), _fill(value, numbers), new_when))
    return tuple(filled)


def _fill(expression, numbers):
    kind = expression[0]
    if kind == "name" and expression[1] in numbers:
        return ("number", numbers[expression[1]])
    if kind == "read":
        return ("read", expression[1], _fill(expression[2], numbers))
    if kind == "op":
        return ("op", expression[1], _fill(expression[2], numbers), _fill(expression[3], numbers))
    if kind == "call":
        return ("call", expression[1], tuple([_fill(part, numbers) for part in expression[2]]))
    return expression
