"""What a worker writes for one job: what one lane does in one part of a step."""

from stillinstep.machines import DATA, LOOK, VOTE
from stillinstep.memory import arrays_in
from stillinstep.plain import number_by_rule, wishes_in

# How a wish that is None stands in the look and vote cells.
NO_WISH = (-1, 0)


def job_writes(machine, cells, code_index, lane):
    """The writes of the job of a lane in the part with this code index, by the cells as they are."""
    index, kind = machine.code[code_index]
    step = machine.steps[index]
    if kind == "look":
        wishes = _data_wishes(machine, step, cells, lane)
        return _pair_writes(machine, "look", lane, [NO_WISH if wish is None else wish for wish in wishes])
    if kind == "settle":
        return _pair_writes(machine, "vote", lane, _settled_pairs(machine, step, cells, lane))
    if kind == "put":
        rule, _, _ = step
        region = LOOK if rule == "" else VOTE
        pairs = _pairs_of(machine, step, cells[region], lane)
        return tuple([("data", cell, value) for cell, value in pairs if cell != -1])
    wishes = _data_wishes(machine, step, cells, lane)
    return tuple([("data", *wish) for wish in wishes if wish is not None])


def _data_wishes(machine, step, cells, lane):
    _, assignments, _ = step
    return wishes_in(machine.program, assignments, arrays_in(machine.program, cells[DATA]), lane)


def _first_of_pair(machine, lane, number):
    return 2 * (lane * machine.slots + number)


def _pair_writes(machine, region, lane, pairs):
    writes = []
    for number, (cell, value) in enumerate(pairs):
        at = _first_of_pair(machine, lane, number)
        writes.append((region, at, cell))
        writes.append((region, at + 1, value))
    return tuple(writes)


def _pairs_of(machine, step, numbers, lane):
    """The pairs (cell, value) of a lane for the assignments of a step, in the look or vote region."""
    _, assignments, _ = step
    begin = _first_of_pair(machine, lane, 0)
    return [(numbers[at], numbers[at + 1]) for at in range(begin, begin + 2 * len(assignments), 2)]


def _settled_pairs(machine, step, cells, lane):
    rule, _, _ = step
    wished = {}
    for other in range(machine.program.lanes):
        for number, (cell, value) in enumerate(_pairs_of(machine, step, cells[LOOK], other)):
            wished.setdefault(cell, []).append((other, number, value))
    settled = []
    for number, (cell, _) in enumerate(_pairs_of(machine, step, cells[LOOK], lane)):
        first_lane, first_number, _ = wished[cell][0]
        if cell == -1 or (first_lane, first_number) != (lane, number):
            settled.append(NO_WISH)
        else:
            settled.append((cell, number_by_rule(rule, [value for _, _, value in wished[cell]])))
    return settled
