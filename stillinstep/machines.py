"""The machine of a program and a crew, and the cells that its workers share."""

from stillinstep.flat import flat_steps
from stillinstep.parts import code_of

REGIONS = ("data", "look", "vote", "mark", "count", "stamp", "node", "taken", "coming")
# The index of each region in REGIONS and in cells.
DATA = 0
LOOK = 1
VOTE = 2
MARK = 3
COUNT = 4
STAMP = 5
NODE = 6
TAKEN = 7
COMING = 8


class Machine:
    """A program and the crew that performs it."""

    def __init__(self, program, crew):
        self.program = program
        self.crew = crew
        self.code = code_of(program)
        self.steps = flat_steps(program)
        self.slots = max([len(assignments) for _, assignments, _ in self.steps])
        # A leaf without a job needs a turn, too: the one that marks it.
        self.works = tuple([max(1, len(_lanes_at(program, crew, leaf))) for leaf in range(crew.leaves)])


def jobs_at(machine, leaf):
    """The lanes that are the jobs of a leaf, in their order."""
    return _lanes_at(machine.program, machine.crew, leaf)


def start_cells(machine, data):
    """The cells with this memory and 0 in all other regions."""
    pairs = 2 * machine.slots * machine.program.lanes
    leaves = machine.crew.leaves
    workers = machine.crew.workers
    sizes = (pairs, pairs, 2 * leaves, leaves, leaves, workers, workers, 2)
    return (tuple(data), *[(0,) * size for size in sizes])


def current_part(cells):
    """The number and the code index of the current part."""
    part = cells[MARK][1] + 1
    return part, cells[COMING][part % 2]


def has_ended(machine, cells):
    """Whether the program has ended."""
    _, code_index = current_part(cells)
    return code_index == len(machine.code)


def ends_step(machine, code_index):
    """Whether a part is the last one of its flat step."""
    behind = code_index + 1
    return behind == len(machine.code) or machine.code[behind][0] != machine.code[code_index][0]


def _lanes_at(program, crew, leaf):
    return tuple(range(leaf, program.lanes, crew.leaves))
