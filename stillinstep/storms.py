"""Storms: how each worker fares in each tick."""

from stillinstep.errors import BadStorm

SIGNS = "+-0123456789"


def check_storm(storm, workers):
    """Raises BadStorm(tick) for the first word that is none for so many workers."""
    for tick, word in enumerate(storm):
        if len(word) != workers or not all([sign in SIGNS for sign in word]):
            raise BadStorm(tick)


def finishers(word):
    """The ascending workers that finish their turn."""
    return tuple([worker for worker, sign in enumerate(word) if sign == "+"])


def storm_of(rows, workers):
    """The storm in which just the workers of a row finish their turn, and the others sleep."""
    return tuple(["".join(["+" if worker in row else "-" for worker in range(workers)]) for row in rows])


def calm_storm(workers, ticks):
    """The storm of so many ticks in which everybody finishes."""
    return ("+" * workers,) * ticks


def made_writes(writes, sign):
    """Those of the writes of a turn that are made under this sign."""
    if sign == "+":
        return tuple(writes)
    if sign == "-":
        return ()
    # The last write is the one that counts, so a cut turn never makes it.
    return tuple(writes[:-1])[:int(sign)]
