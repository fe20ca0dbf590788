"""The workers of a crew: where each takes up a part, and which children it tries first."""

from stillinstep.errors import BadCrew
from stillinstep.trees import depth_of, is_under

MOST_HEIGHT = 4
MOST_WORKERS = 16
MOST_BITS = 4


class Crew:
    """Workers with their seats and leanings, over a tree of this height."""

    def __init__(self, height, seats, leanings):
        if not _is_height(height):
            raise BadCrew("height")
        leaves = 1 << height
        if not _are_seats(seats, leaves):
            raise BadCrew("seats")
        if len(leanings) != len(seats) or not all([_are_leanings(row, leaves) for row in leanings]):
            raise BadCrew("leanings")
        self.height = height
        self.seats = tuple(seats)
        self.leanings = tuple([tuple(row) for row in leanings])

    def __eq__(self, other):
        if not isinstance(other, Crew):
            return False
        return self.height == other.height and self.seats == other.seats and self.leanings == other.leanings

    @property
    def workers(self):
        """The number of workers."""
        return len(self.seats)

    @property
    def leaves(self):
        """The number of leaves of the tree."""
        return 1 << self.height


def leaning_child(crew, worker, node):
    """The child of an inner node that a worker tries first."""
    return 2 * node + crew.leanings[worker][node - 1]


def seat_node(crew, worker):
    """The node of the leaf at which a worker takes up each part."""
    return crew.leaves + crew.seats[worker]


def seated(crew, node):
    """The ascending workers whose seat is under a node."""
    return tuple([worker for worker in range(crew.workers) if is_under(seat_node(crew, worker), node)])


def unseated_nodes(crew):
    """The ascending nodes under which nobody has a seat."""
    return tuple([node for node in range(1, 2 * crew.leaves) if seated(crew, node) == ()])


def bits_crew(height, *, bits):
    """The crew by bits of 2 ** bits workers; raises BadCrew("height"), BadCrew("bits")."""
    if not _is_height(height):
        raise BadCrew("height")
    if bits < 0 or bits > MOST_BITS:
        raise BadCrew("bits")
    leaves = 1 << height
    workers = 1 << bits
    seats = [worker * leaves // workers for worker in range(workers)]
    return Crew(height, seats, [_leanings_by_bits(worker, leaves, bits) for worker in range(workers)])


def _is_height(height):
    return 1 <= height <= MOST_HEIGHT


def _are_seats(seats, leaves):
    return 1 <= len(seats) <= MOST_WORKERS and all([0 <= seat < leaves for seat in seats])


def _are_leanings(row, leaves):
    return len(row) == leaves - 1 and all([leaning in (0, 1) for leaning in row])


def _leanings_by_bits(worker, leaves, bits):
    row = []
    for node in range(1, leaves):
        # The bits of the worker's number, the highest one at the root.
        bit = bits - 1 - depth_of(node)
        row.append(worker >> bit & 1 if bit >= 0 else 0)
    return row
