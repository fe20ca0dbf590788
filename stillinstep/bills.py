"""The dearest bill of a part, and a storm that reaches it."""

from stillinstep.crews import leaning_child, seat_node
from stillinstep.errors import PartOver
from stillinstep.storms import storm_of
from stillinstep.trees import depth_of, sibling_of
from stillinstep.walks import is_over, start_standing, walk_tick


def dearest(crew, works, *, standing=None):
    """The greatest number of turns that can be finished from a standing until the part is over."""
    if standing is None:
        standing = start_standing(crew)
    if is_over(standing):
        return 0
    _, _, places = standing
    return places.count(0) + Outlook(crew, works, standing).worth(1, []) - crew.workers


def tick_choice(crew, works, standing):
    """The ascending workers of a tick that loses nothing; raises PartOver."""
    if is_over(standing):
        raise PartOver()
    _, _, places = standing
    waiting = [worker for worker, place in enumerate(places) if place == 0]
    if waiting != []:
        return tuple(waiting)
    return tuple(Outlook(crew, works, standing).choice(1))


def dearest_storm(crew, works, *, standing=None):
    """A storm from a standing to the end of the part in which exactly dearest turns are finished."""
    if standing is None:
        standing = start_standing(crew)
    rows = []
    while not is_over(standing):
        row = tick_choice(crew, works, standing)
        rows.append(row)
        standing = walk_tick(crew, works, standing, row)
    return storm_of(rows, crew.workers)


class Outlook:
    """What can still be spent from a standing that is not over."""

    def __init__(self, crew, works, standing):
        self.crew = crew
        self.works = works
        done, counts, places = standing
        self.done = done
        self.counts = counts
        # A worker that has not taken up the part counts as placed at its seat.
        self.places = [place if place > 0 else seat_node(crew, worker) for worker, place in enumerate(places)]
        # The ascending workers placed under each node, and those placed at it.
        self.under = [[] for _ in range(2 * crew.leaves)]
        self.staying = [[] for _ in range(2 * crew.leaves)]
        for worker, place in enumerate(self.places):
            self.staying[place].append(worker)
            while place > 0:
                self.under[place].append(worker)
                place //= 2

    def worth(self, node, comers):
        """V(node, comers): the turns of those placed under the node and of those that will come to it."""
        if self.done[node] == 1:
            return sum([depth_of(self.places[worker]) - depth_of(node) + 1 for worker in self.under[node]])
        many = len(self.under[node]) + len(comers)
        if node >= self.crew.leaves:
            leaf = node - self.crew.leaves
            return (self.works[leaf] - self.counts[leaf] + 1) * many
        marked = self.marked_children(node)
        if len(marked) == 2:
            return self.worth(2 * node, []) + self.worth(2 * node + 1, []) + 2 * many
        if len(marked) == 1:
            child = marked[0]
            other = sibling_of(child)
            goers = self.under[child] + self.staying[node] + comers
            stayers = self.under[other]
            return self.worth(child, []) + self.worth(other, goers) + 3 * len(goers) + 2 * len(stayers)
        return max(self.worth_of_first(node, comers, 2 * node), self.worth_of_first(node, comers, 2 * node + 1))

    def worth_of_first(self, node, comers, child):
        """The worth of marking this child of a node first; -1, less than any worth, if nobody can."""
        here = self.staying[node] + comers
        first = [worker for worker in here if leaning_child(self.crew, worker, node) == child]
        under_child = self.under[child]
        if under_child == [] and first == []:
            return -1
        other = sibling_of(child)
        below = self.worth(child, first) + self.worth(other, under_child + here)
        # At the node itself: 4 turns of who tries the child first there, 3 of the others who come to it.
        return below + 3 * len(under_child) + 2 * len(self.under[other]) + len(first) + 3 * len(here)

    def choice(self, node):
        """The workers of a tick that loses nothing, all of them under this node, which is not marked."""
        if node >= self.crew.leaves:
            return self.under[node]
        marked = self.marked_children(node)
        here = self.staying[node]
        if len(marked) == 2:
            below = [worker for worker in self.under[node] if self.places[worker] != node]
            return below if below != [] else here
        if len(marked) == 1:
            if self.under[marked[0]] != []:
                return self.under[marked[0]]
            return here if here != [] else self.choice(sibling_of(marked[0]))
        child = 2 * node
        if self.worth_of_first(node, [], child) < self.worth_of_first(node, [], child + 1):
            child += 1
        first = [worker for worker in here if leaning_child(self.crew, worker, node) == child]
        return first if first != [] else self.choice(child)

    def marked_children(self, node):
        """The children of an inner node that are marked."""
        return [child for child in (2 * node, 2 * node + 1) if self.done[child] == 1]
