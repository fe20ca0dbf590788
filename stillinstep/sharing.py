"""The sharing of places: states, what workers wish by them, ticks and runs."""

from stillinstep.expressions import value_of
from stillinstep.storms import check_storm, finishers, made_writes
from stillinstep.ways import TableWay, note_cells


def start_state(way, places):
    """The state in which nothing is written and all notes are 0."""
    return ((0,) * places, (0,) * note_cells(way))


def wish_of(way, places, workers, state, worker):
    """The pair (note, place) of what a worker wishes to write; either may be None."""
    written, notes = state
    if isinstance(way, TableWay):
        wish = way.rows[_set_number(written)][worker]
        return (None, None if wish == -1 else wish)
    names = {"me": worker, "workers": workers, "places": places, "left": written.count(0)}
    arrays = {"place": written, "note": notes}
    place = value_of(way.place, names, arrays)
    return (_note_wish(way, names, arrays), place if 0 <= place < places else None)


def after_share(way, places, workers, state, word):
    """The state behind a tick; raises BadStorm(0)."""
    check_storm((word,), workers)
    written, notes = [list(cells) for cells in state]
    # By ascending worker, so that of several writes of one note the last one stays.
    for worker, sign in enumerate(word):
        for kind, index, value in made_writes(_share_writes(way, places, workers, state, worker), sign):
            if kind == "note":
                notes[index] = value
            else:
                written[index] = value
    return (tuple(written), tuple(notes))


def share_run(way, places, workers, storm):
    """The last state, the turns spent while a place was left, and the ticks of these; raises BadStorm(tick)."""
    check_storm(storm, workers)
    state = start_state(way, places)
    spent = 0
    ticks = 0
    for word in storm:
        written, _ = state
        if 0 in written:
            spent += len(finishers(word))
            ticks += 1
        state = after_share(way, places, workers, state, word)
    return (state, spent, ticks)


def _set_number(written):
    """The number of the row of a table for these written places."""
    return sum([1 << place for place, mark in enumerate(written) if mark == 1])


def _note_wish(way, names, arrays):
    if way.note is None:
        return None
    index, value = [value_of(expression, names, arrays) for expression in way.note]
    return (index, value) if 0 <= index < way.notes else None


def _share_writes(way, places, workers, state, worker):
    """The writes (kind, index, value) of the turn of a worker, in their order."""
    note, place = wish_of(way, places, workers, state, worker)
    writes = []
    if note is not None:
        writes.append(("note", *note))
    if place is not None:
        writes.append(("place", place, 1))
    return writes
