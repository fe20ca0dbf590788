"""What a worker does in its next turn, by the cells alone."""

from stillinstep.crews import seat_node
from stillinstep.flat import step_behind
from stillinstep.jobs import job_writes
from stillinstep.machines import COUNT, DATA, MARK, NODE, STAMP, TAKEN, current_part, ends_step, has_ended, jobs_at
from stillinstep.walks import child_below


def turn_of(machine, cells, worker):
    """The act of the next turn of a worker and its writes, the one that counts last."""
    if has_ended(machine, cells):
        return ("idle", ())
    part, _ = current_part(cells)
    if cells[TAKEN][worker] != part:
        return ("take", (("node", worker, seat_node(machine.crew, worker)), ("taken", worker, part)))
    node = cells[NODE][worker]
    mark = cells[MARK]
    if mark[node] == part:
        return ("up", (("node", worker, node // 2),))
    if node >= machine.crew.leaves:
        return ("work", _work_writes(machine, cells, node))
    left_marked = mark[2 * node] == part
    right_marked = mark[2 * node + 1] == part
    if left_marked and right_marked:
        return ("mark", _mark_writes(machine, cells, node))
    return ("down", (("node", worker, child_below(machine.crew, worker, node, left_marked, right_marked)),))


def _work_writes(machine, cells, node):
    part, code_index = current_part(cells)
    leaf = node - machine.crew.leaves
    worked = cells[COUNT][leaf] if cells[STAMP][leaf] == part else 0
    jobs = jobs_at(machine, leaf)
    writes = () if jobs == () else job_writes(machine, cells, code_index, jobs[worked])
    if worked + 1 == machine.works[leaf]:
        return (*writes, ("mark", node, part))
    if worked == 0:
        # The stamp comes last: until it stands there the count is one of an earlier part.
        return (*writes, ("count", leaf, 1), ("stamp", leaf, part))
    return (*writes, ("count", leaf, worked + 1))


def _mark_writes(machine, cells, node):
    part, code_index = current_part(cells)
    if node != 1:
        return (("mark", node, part),)
    following = _following_part(machine, code_index, cells[DATA])
    return (("coming", (part + 1) % 2, following), ("mark", node, part))


def _following_part(machine, code_index, data):
    if not ends_step(machine, code_index):
        return code_index + 1
    index, _ = machine.code[code_index]
    following = step_behind(machine.program, machine.steps, index, data)
    return len([at for at, _ in machine.code if at < following])
