"""How the workers of a crew walk through one part: its standing from tick to tick."""

from stillinstep.crews import leaning_child, seat_node


def start_standing(crew):
    """The standing in which nothing is marked, worked or taken up."""
    leaves = crew.leaves
    return ((0,) * (2 * leaves), (0,) * leaves, (0,) * crew.workers)


def is_over(standing):
    """Whether the root is marked."""
    return standing[0][1] == 1


def walk_turn(crew, works, standing, worker):
    """The act of the next turn of a worker, its place before it and its place after it."""
    done, _, places = standing
    at = places[worker]
    if is_over(standing):
        return ("idle", at, at)
    if at == 0:
        return ("take", at, seat_node(crew, worker))
    if done[at] == 1:
        return ("up", at, at // 2)
    if at >= crew.leaves:
        return ("work", at, at)
    left_marked = done[2 * at] == 1
    right_marked = done[2 * at + 1] == 1
    if left_marked and right_marked:
        return ("mark", at, at)
    return ("down", at, child_below(crew, worker, at, left_marked, right_marked))


def child_below(crew, worker, node, left_marked, right_marked):
    """The child to which a worker goes down from a node whose children are not both marked."""
    if left_marked:
        return 2 * node + 1
    if right_marked:
        return 2 * node
    return leaning_child(crew, worker, node)


def walk_tick(crew, works, standing, workers):
    """The standing behind a tick in which just these workers finish a turn."""
    if is_over(standing):
        return standing
    old_counts = standing[1]
    done, counts, places = [list(numbers) for numbers in standing]
    for worker in workers:
        act, at, to = walk_turn(crew, works, standing, worker)
        places[worker] = to
        if act == "mark":
            done[at] = 1
        elif act == "work":
            leaf = at - crew.leaves
            # Not += 1: several workers at one leaf raise its count by 1 together.
            counts[leaf] = old_counts[leaf] + 1
            done[at] = 1 if counts[leaf] == works[leaf] else 0
    return (tuple(done), tuple(counts), tuple(places))
