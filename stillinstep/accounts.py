"""Accounts: who finished how many turns where in one part."""

from stillinstep.crews import leaning_child, seat_node
from stillinstep.errors import NotOver
from stillinstep.storms import check_storm, finishers
from stillinstep.trees import is_under
from stillinstep.walks import is_over, start_standing, walk_tick, walk_turn


def account_of(crew, works, storm):
    """The account of the part under a storm; raises BadStorm(tick), NotOver."""
    check_storm(storm, crew.workers)
    ledger = Ledger(crew)
    standing = start_standing(crew)
    for tick, word in enumerate(storm):
        if is_over(standing):
            break
        row = finishers(word)
        for worker in row:
            ledger.add_turn(worker, walk_turn(crew, works, standing, worker))
        standing = walk_tick(crew, works, standing, row)
        ledger.add_marks(tick, standing)
    if not is_over(standing):
        raise NotOver()
    return ledger.told()


def account_bill(account):
    """The number of turns that an account tells of."""
    takers, entries = account
    return len(takers) + sum([sum(turns) for _, _, turns in entries])


def is_account(crew, works, account):
    """Whether an account keeps what holds of the account of every storm."""
    takers, entries = account
    if not _has_form(crew, takers, entries):
        return False
    # Nothing stands at 0, so the entry of a node has the number of the node.
    entries = [None, *entries]
    nodes = range(1, 2 * crew.leaves)
    return (
        all([_is_of_takers(takers, entries[node]) for node in nodes])
        and all([_is_apart_from_seats(crew, node, entries[node]) for node in nodes])
        and all([_is_reached_rightly(crew, entries, node) for node in range(1, crew.leaves)])
        and all([_is_within_allowance(crew, works, node, entries[node]) for node in nodes])
    )


class Ledger:
    """What was done in a part so far."""

    def __init__(self, crew):
        self.crew = crew
        nodes = 2 * crew.leaves
        # For each worker, whether it took up the part.
        self.took = [False] * crew.workers
        # For each node, the workers that came to it from above, and the turns of each worker.
        self.comers = [[] for _ in range(nodes)]
        self.turns = [[0] * crew.workers for _ in range(nodes)]
        # For each marked node, the tick in which it was marked.
        self.ticks = {}

    def add_turn(self, worker, turn):
        """Adds a finished turn, as walk_turn tells it."""
        act, at, to = turn
        if act == "take":
            self.took[worker] = True
        else:
            self.turns[at][worker] += 1
        if act == "down":
            self.comers[to].append(worker)

    def add_marks(self, tick, standing):
        """Adds the marks that are new in the standing behind a tick."""
        done, _, _ = standing
        for node, mark in enumerate(done):
            if mark == 1:
                self.ticks.setdefault(node, tick)

    def told(self):
        """The account, when all nodes are marked."""
        takers = tuple([worker for worker, took in enumerate(self.took) if took])
        entries = []
        for node in range(1, 2 * self.crew.leaves):
            above = tuple(sorted(self.comers[node]))
            entries.append((self.first_child(node), above, tuple(self.turns[node])))
        return (takers, tuple(entries))

    def first_child(self, node):
        """Which child was marked first: 0 the left, 1 the right one, 2 neither; None for a leaf."""
        if node >= self.crew.leaves:
            return None
        left, right = self.ticks[2 * node], self.ticks[2 * node + 1]
        if left == right:
            return 2
        return 0 if left < right else 1


def _has_form(crew, takers, entries):
    if not _are_workers(crew, takers) or len(entries) != 2 * crew.leaves - 1:
        return False
    return all([_is_entry(crew, node, entry) for node, entry in enumerate(entries, start=1)])


def _is_entry(crew, node, entry):
    first, above, turns = entry
    known = (None,) if node >= crew.leaves else (0, 1, 2)
    if first not in known or not _are_workers(crew, above):
        return False
    return len(turns) == crew.workers and all([number >= 0 for number in turns])


def _are_workers(crew, numbers):
    return list(numbers) == [worker for worker in range(crew.workers) if worker in numbers]


def _is_of_takers(takers, entry):
    _, above, turns = entry
    idlers = [worker for worker in range(len(turns)) if worker not in takers]
    return all([worker not in above and turns[worker] == 0 for worker in idlers])


def _is_apart_from_seats(crew, node, entry):
    _, above, _ = entry
    return not any([is_under(seat_node(crew, worker), node) for worker in above])


def _is_reached_rightly(crew, entries, node):
    for child in (2 * node, 2 * node + 1):
        _, above, _ = entries[child]
        if not all([_may_come(crew, node, entries[node], child, worker) for worker in above]):
            return False
    return True


def _may_come(crew, node, entry, child, worker):
    """Whether a worker can come down from an inner node with this entry to this child."""
    first, above, _ = entry
    if first != 2 and child != 2 * node + first:
        # Who was under the other child goes over when that one is marked.
        return worker in above or is_under(seat_node(crew, worker), 2 * node + first)
    return worker in above and leaning_child(crew, worker, node) == child


def _is_within_allowance(crew, works, node, entry):
    _, _, turns = entry
    return all([number <= _allowed(crew, works, node, entry, worker) for worker, number in enumerate(turns)])


def _allowed(crew, works, node, entry, worker):
    """The most turns that a worker may have at a node with this entry."""
    first, above, _ = entry
    comes = worker in above
    seat = seat_node(crew, worker)
    if not comes and not is_under(seat, node):
        return 0
    if node >= crew.leaves:
        return works[node - crew.leaves] + 1
    turns = 3 if comes else 2
    # A worker that begins under the child that is marked first passes the node once more.
    begin = leaning_child(crew, worker, node) if comes else seat
    if first != 2 and is_under(begin, 2 * node + first):
        turns += 1
    # Nobody goes up from the root.
    return turns - 1 if node == 1 else turns
