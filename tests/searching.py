"""A search through all rows of ticks of a small part."""

from itertools import combinations

from stillinstep.walks import start_standing, walk_tick


def all_ticks(crew):
    """All choices of one or more workers."""
    workers = range(crew.workers)
    return [row for many in range(1, crew.workers + 1) for row in combinations(workers, many)]


def all_bills(crew, works):
    """For each standing that any row of ticks reaches, the least and the greatest bill of what is left."""
    rows = all_ticks(crew)
    bills = {}

    def fill(standing):
        if standing[0][1]:
            bills[standing] = (0, 0)
            return
        least = greatest = None
        for row in rows:
            behind = walk_tick(crew, works, standing, row)
            if behind not in bills:
                fill(behind)
            low, high = bills[behind]
            least = low + len(row) if least is None else min(least, low + len(row))
            greatest = high + len(row) if greatest is None else max(greatest, high + len(row))
        bills[standing] = (least, greatest)

    fill(start_standing(crew))
    return bills
