"""From the cells before a tick to the cells behind it."""

from stillinstep.errors import Disagree
from stillinstep.machines import COUNT, MARK, NODE, REGIONS, STAMP, TAKEN, current_part
from stillinstep.storms import check_storm, made_writes
from stillinstep.turns import turn_of


def merged(rows):
    """One write for each cell that the rows write; raises Disagree(region, index)."""
    values = {}
    clashes = []
    for row in rows:
        last = {(REGIONS.index(region), index): value for region, index, value in row}
        for cell, value in last.items():
            if values.setdefault(cell, value) != value:
                clashes.append(cell)
    if clashes != []:
        region, index = min(clashes)
        raise Disagree(REGIONS[region], index)
    return tuple([(REGIONS[region], index, values[(region, index)]) for region, index in sorted(values)])


def after_tick(machine, cells, word):
    """The cells behind a tick; raises BadStorm(0) if the word does not fit the crew."""
    check_storm((word,), machine.crew.workers)
    return behind_turns(cells, awake_turns(machine, cells, word))


def each_tick(machine, cells, storm):
    """Yields the cells behind each word of the storm."""
    for word in storm:
        cells = after_tick(machine, cells, word)
        yield cells


def standing_of(machine, cells):
    """Number, code index and standing of the current part."""
    part, code_index = current_part(cells)
    leaves = machine.crew.leaves
    # Nothing is ever written at 0, and no part has the number 0.
    done = tuple([1 if number == part else 0 for number in cells[MARK]])
    counts = []
    for leaf in range(leaves):
        if done[leaves + leaf] == 1:
            counts.append(machine.works[leaf])
        else:
            counts.append(cells[COUNT][leaf] if cells[STAMP][leaf] == part else 0)
    places = tuple([node if taken == part else 0 for node, taken in zip(cells[NODE], cells[TAKEN])])
    return part, code_index, (done, tuple(counts), places)


def awake_turns(machine, cells, word):
    """(worker, sign, act, writes) for each worker that does not sleep under a word that fits."""
    turns = []
    for worker, sign in enumerate(word):
        if sign != "-":
            act, writes = turn_of(machine, cells, worker)
            turns.append((worker, sign, act, writes))
    return turns


def behind_turns(cells, turns):
    """The cells behind a tick with these turns of awake_turns."""
    writes = merged([made_writes(wished, sign) for _, sign, _, wished in turns])
    changed = {}
    for region, index, value in writes:
        if region not in changed:
            changed[region] = list(cells[REGIONS.index(region)])
        changed[region][index] = value
    return tuple([tuple(changed.get(region, old)) for region, old in zip(REGIONS, cells)])


def finished_turns(cells, turns):
    """(worker, act, place before the turn) for those turns of awake_turns that count as finished."""
    finished = []
    for worker, sign, act, _ in turns:
        if sign == "+" and act != "idle":
            at = 0 if act == "take" else cells[NODE][worker]
            finished.append((worker, act, at))
    return finished
