"""Storms against a way of sharing, and the way that is never worse than it must be."""

from stillinstep.sharing import after_share, start_state, wish_of
from stillinstep.ways import Way


def worth(places, workers):
    """The turns below which no way of sharing brings its bill."""
    return sum([(workers + share - 1) // share for share in range(1, places + 1)])


def fullest_storm(way, places, workers):
    """A storm that makes a way spend its worth or more."""
    state = start_state(way, places)
    storm = []
    spent = 0
    while spent < worth(places, workers):
        # All places but one are stopped: the one that most workers wish is written.
        word = _stopping_word(way, places, workers, state, _places_left(state) - 1)
        storm.append(word)
        spent += word.count("+")
        state = after_share(way, places, workers, state, word)
    return tuple(storm)


def even_way():
    """The way that spreads the workers evenly over the places that are not written."""
    return Way(("call", "nth", (("op", "mod", ("name", "me"), ("name", "left")),)))


def halving_storm(way, places, workers):
    """A short storm that leaves about half of the places unwritten in each tick but the last."""
    state = start_state(way, places)
    storm = []
    for _ in range(places.bit_length() - 1):
        word = _stopping_word(way, places, workers, state, _places_left(state) // 2)
        storm.append(word)
        state = after_share(way, places, workers, state, word)
    return (*storm, "+" * workers)


def _places_left(state):
    written, _ = state
    return written.count(0)


def _stopping_word(way, places, workers, state, many):
    """The word that stops just who wishes one of so many unwritten places, those least wished."""
    wishes = [wish_of(way, places, workers, state, worker)[1] for worker in range(workers)]
    written, _ = state
    ranked = sorted([(wishes.count(place), place) for place in range(places) if written[place] == 0])
    stopped = [place for _, place in ranked[:many]]
    return "".join(["-" if wish in stopped else "+" for wish in wishes])
