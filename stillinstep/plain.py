"""The plain run: one step after the other."""

from stillinstep.clipping import clip
from stillinstep.expressions import value_of
from stillinstep.flat import flat_steps, step_behind
from stillinstep.memory import arrays_in, offset_of


def lane_wishes(program, index, data, lane):
    """For each assignment of a flat step, what one lane wishes: (cell, value) or None."""
    _, assignments, _ = flat_steps(program)[index]
    return wishes_in(program, assignments, arrays_in(program, data), lane)


def writes_of(program, index, data):
    """The pairs (cell, value) of all cells that a flat step writes, by ascending cell."""
    return _step_writes(program, flat_steps(program)[index], data)


def after_step(program, index, data):
    """The memory behind a flat step."""
    return _behind_step(program, flat_steps(program)[index], data)


def plain_run(program, data, *, most):
    """The pairs (index, memory behind it) of the steps of a run, and whether it has ended."""
    steps = flat_steps(program)
    done = []
    index = 0
    while index < len(steps) and len(done) < most:
        data = _behind_step(program, steps[index], data)
        done.append((index, data))
        index = step_behind(program, steps, index, data)
    return tuple(done), index == len(steps)


def wishes_in(program, assignments, arrays, lane):
    """The wishes of one lane for these assignments, by the arrays as they are."""
    names = {"me": lane, "lanes": program.lanes}
    return tuple([_wish_of(program, assignment, names, arrays) for assignment in assignments])


def number_by_rule(rule, values):
    """The number that a cell gets from the values of the wishes for it, in their order."""
    if rule == "sum":
        return clip(sum(values))
    if rule == "most":
        return max(values)
    if rule == "least":
        return min(values)
    return values[0]


def _wish_of(program, assignment, names, arrays):
    array, place, value, when = assignment
    if when is not None and value_of(when, names, arrays) == 0:
        return None
    at = value_of(place, names, arrays)
    if at < 0 or at >= len(arrays[array]):
        return None
    return (offset_of(program, array) + at, value_of(value, names, arrays))


def _step_writes(program, step, data):
    rule, assignments, _ = step
    arrays = arrays_in(program, data)
    wished = {}
    for lane in range(program.lanes):
        for wish in wishes_in(program, assignments, arrays, lane):
            if wish is not None:
                cell, value = wish
                wished.setdefault(cell, []).append(value)
    return tuple([(cell, number_by_rule(rule, wished[cell])) for cell in sorted(wished)])


def _behind_step(program, step, data):
    cells = list(data)
    for cell, value in _step_writes(program, step, data):
        cells[cell] = value
    return tuple(cells)
