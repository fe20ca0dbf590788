"""What comes of a storm."""

from stillinstep.machines import DATA, current_part, ends_step, has_ended
from stillinstep.storms import check_storm
from stillinstep.ticks import awake_turns, behind_turns, finished_turns


class Report:
    """What was done under a storm, as run_storm tells it."""

    def __init__(self, cells, ended, parts, steps, turns):
        self.cells = cells
        self.ended = ended
        self.bill = len(turns)
        self.parts = parts
        self.steps = steps
        self.turns = turns


def run_storm(machine, cells, storm):
    """The report of a storm from these cells on; raises BadStorm(tick)."""
    check_storm(storm, machine.crew.workers)
    parts = []
    steps = []
    turns = []
    bill_of_part = 0
    for tick, word in enumerate(storm):
        part, code_index = current_part(cells)
        turns_now = awake_turns(machine, cells, word)
        finished = finished_turns(cells, turns_now)
        turns.extend([(tick, worker, part, act, at) for worker, act, at in finished])
        bill_of_part += len(finished)
        cells = behind_turns(cells, turns_now)
        part_now, _ = current_part(cells)
        if part_now != part:
            parts.append((part, code_index, bill_of_part, tick))
            bill_of_part = 0
            if ends_step(machine, code_index):
                index, _ = machine.code[code_index]
                steps.append((index, cells[DATA]))
    return Report(cells, has_ended(machine, cells), tuple(parts), tuple(steps), tuple(turns))
