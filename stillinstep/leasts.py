"""The least bill of a part, and a storm that reaches it."""

from stillinstep.crews import leaning_child, seated, unseated_nodes
from stillinstep.storms import storm_of
from stillinstep.trees import sibling_of


def least(crew, works):
    """The least number of turns in which the part can be brought to its end."""
    return sum(works) + 3 * crew.leaves - 2 + len(unseated_nodes(crew))


def least_storm(crew, works):
    """A storm from the start to the end of the part that has the least bill."""
    return storm_of([(worker,) for worker in _row_to_mark(crew, works, 1, None)], crew.workers)


def _row_to_mark(crew, works, node, comer):
    """Who finishes the only turn of each tick until the node is marked; the last one is then at it.

    The comer is at the node from the first tick on. If it is None, nobody is there: then only workers
    seated under the node do its work, and no two of one seat, because each costs a turn to take up the part.
    """
    if node >= crew.leaves:
        turns = works[node - crew.leaves]
        return [comer] * turns if comer is not None else [seated(crew, node)[0]] * (1 + turns)
    if comer is not None:
        child = leaning_child(crew, comer, node)
        row = [comer] + _row_to_mark(crew, works, child, comer)
    else:
        child = 2 * node if seated(crew, 2 * node) != () else 2 * node + 1
        row = _row_to_mark(crew, works, child, None)
    other = sibling_of(child)
    if comer is None and seated(crew, other) != ():
        row += _row_to_mark(crew, works, other, None)
    else:
        # Nobody but the one that marked the child can come to the other one: it goes up and down again.
        row += [row[-1]] * 2 + _row_to_mark(crew, works, other, row[-1])
    return row + [row[-1]] * 2
