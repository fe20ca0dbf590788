"""Table ways: their dearest bills, papers that prove these, and the storms that reach them.

A set of places is a number: place p belongs to it if the bit with the weight 2 ** p is 1.
"""

from stillinstep.errors import EndlessTable, HasNotes
from stillinstep.sharing import start_state, wish_of
from stillinstep.storms import storm_of
from stillinstep.ways import TableWay, note_cells


def table_of(way, places, workers):
    """The table way that wishes the same places as a way; raises HasNotes."""
    if note_cells(way) != 0:
        raise HasNotes()
    _, notes = start_state(way, places)
    rows = []
    for number in range(1 << places):
        state = (tuple([1 if _holds_place(number, place) else 0 for place in range(places)]), notes)
        wishes = [wish_of(way, places, workers, state, worker)[1] for worker in range(workers)]
        rows.append([-1 if wish is None else wish for wish in wishes])
    return TableWay(places, rows)


def dearest_table(table):
    """The dearest bill of a table, or None if it is endless."""
    paper = table_paper(table)
    return None if paper is None else paper[0]


def table_paper(table):
    """For each set its dearest bill, or None if no storm reaches it; None if the table is endless."""
    ways_there = _ways_there(table)
    if _idle_set(table, ways_there) is not None:
        return None
    paper = [None] * len(table.rows)
    paper[-1] = 0
    # A tick only adds places, so the sets behind it have greater numbers.
    for number in range(len(paper) - 2, -1, -1):
        if number in ways_there:
            paper[number] = max([len(row) + paper[behind] for row, behind in _ticks_at(table, number)])
    return tuple(paper)


def is_table_paper(table, paper):
    """Whether a paper proves that no storm spends more than its item 0."""
    if len(paper) != len(table.rows) or paper[0] is None:
        return False
    if any([item is not None and item < 0 for item in paper]):
        return False
    return all([paper[number] is None or _holds_at(table, paper, number) for number in range(len(paper) - 1)])


def table_storm(table):
    """A storm that spends the dearest bill and ends when all places are written; raises EndlessTable."""
    paper = table_paper(table)
    if paper is None:
        raise EndlessTable()
    rows = []
    number = 0
    while number != len(paper) - 1:
        costs = [(len(row) + paper[behind], row, behind) for row, behind in _ticks_at(table, number)]
        _, row, number = max(costs)
        rows.append(row)
    return storm_of(rows, _workers_of(table))


def endless_storm(table):
    """The pair (first, again) under which a table spends without end, or None if it has none."""
    ways_there = _ways_there(table)
    number = _idle_set(table, ways_there)
    if number is None:
        return None
    idler = _idlers_at(table, number)[0]
    workers = _workers_of(table)
    return (storm_of(ways_there[number], workers), storm_of([(idler,)], workers))


def _workers_of(table):
    return len(table.rows[0])


def _holds_place(number, place):
    """Whether a place belongs to the set with this number; -1, no place, belongs to none."""
    return place >= 0 and (number >> place) & 1 == 1


def _ticks_at(table, number):
    """For each choice of wished places at a set, who wishes one of them, and the set with them."""
    row = table.rows[number]
    wished = sum([1 << place for place in range(table.places) if place in row])
    ticks = []
    choice = wished
    while choice > 0:
        wishers = tuple([worker for worker, place in enumerate(row) if _holds_place(choice, place)])
        ticks.append((wishers, number | choice))
        choice = (choice - 1) & wished
    return ticks


def _idlers_at(table, number):
    """The workers who wish no place that is not in the set."""
    return [worker for worker, place in enumerate(table.rows[number]) if place == -1 or _holds_place(number, place)]


def _ways_there(table):
    """For each set that a storm can reach, the rows of workers of a storm that reaches it."""
    ways_there = {0: ()}
    for number in range(len(table.rows) - 1):
        if number in ways_there:
            for row, behind in _ticks_at(table, number):
                ways_there.setdefault(behind, (*ways_there[number], row))
    return ways_there


def _idle_set(table, ways_there):
    """The least set that is not full, can be reached and has somebody idle, or None."""
    for number in range(len(table.rows) - 1):
        if number in ways_there and _idlers_at(table, number) != []:
            return number
    return None


def _holds_at(table, paper, number):
    if _idlers_at(table, number) != []:
        return False
    for row, behind in _ticks_at(table, number):
        if paper[behind] is None or paper[number] < len(row) + paper[behind]:
            return False
    return True
