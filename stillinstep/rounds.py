"""Storms that come round: first some words, then others over and over without end."""

from stillinstep.errors import BadRound
from stillinstep.machines import has_ended, start_cells
from stillinstep.runs import run_storm
from stillinstep.storms import check_storm, finishers
from stillinstep.ticks import standing_of
from stillinstep.walks import is_over, start_standing, walk_tick
from stillinstep.wholes import parts_of_run


def ends_in_rounds(machine, data, *, first, again, most):
    """Whether the run comes to its end; raises BadStorm(tick), BadRound, NotEnded(most)."""
    _check_storms(machine, first, again)
    parts_of_run(machine, data, most)
    return _wakes_somebody(again) or has_ended(machine, _cells_behind(machine, data, first))


def rounds_to_end(machine, data, *, first, again, most):
    """How often again is begun until the run has ended, or None; raises as ends_in_rounds does."""
    _check_storms(machine, first, again)
    parts = parts_of_run(machine, data, most)
    cells = _cells_behind(machine, data, first)
    if has_ended(machine, cells):
        return 0
    if not _wakes_somebody(again):
        return None
    # From here on the words are walked, not performed: when parts end, the standing alone tells.
    rows = [finishers(word) for word in again]
    part, _, standing = standing_of(machine, cells)
    ticks = _ticks_to_over(machine, rows, standing, 0)
    # Parts that begin with the same word of again take the same number of ticks.
    known = {}
    for _ in range(parts - part):
        begin = ticks % len(rows)
        if begin not in known:
            known[begin] = _ticks_to_over(machine, rows, start_standing(machine.crew), begin)
        ticks += known[begin]
    return (ticks + len(rows) - 1) // len(rows)


def _check_storms(machine, first, again):
    check_storm((*first, *again), machine.crew.workers)
    if len(again) == 0:
        raise BadRound()


def _wakes_somebody(storm):
    return any(["+" in word for word in storm])


def _cells_behind(machine, data, storm):
    return run_storm(machine, start_cells(machine, data), storm).cells


def _ticks_to_over(machine, rows, standing, begin):
    """The ticks until a part is over if its next tick is that of the row with this index."""
    ticks = 0
    while not is_over(standing):
        row = rows[(begin + ticks) % len(rows)]
        standing = walk_tick(machine.crew, machine.works, standing, row)
        ticks += 1
    return ticks
