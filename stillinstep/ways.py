"""Ways of sharing: what each worker wishes to write, by a state of written places and notes."""

from stillinstep.errors import BadTable

MOST_PLACES_OF_TABLE = 6
MOST_WORKERS = 16


class Way:
    """A way by expressions: that of the place, and perhaps those of index and value of a note."""

    def __init__(self, place, *, notes=0, note=None):
        self.place = place
        self.notes = notes
        self.note = None if note is None else tuple(note)

    def __eq__(self, other):
        if not isinstance(other, Way):
            return False
        return self.place == other.place and self.notes == other.notes and self.note == other.note


class TableWay:
    """A way by a table: for each set of written places, the wish of each worker; raises BadTable(row)."""

    def __init__(self, places, rows):
        if places < 1 or places > MOST_PLACES_OF_TABLE or len(rows) != 1 << places:
            raise BadTable(-1)
        for number, row in enumerate(rows):
            if len(row) != len(rows[0]) or not _is_row(row, places):
                raise BadTable(number)
        self.places = places
        self.rows = tuple([tuple(row) for row in rows])

    def __eq__(self, other):
        if not isinstance(other, TableWay):
            return False
        return self.places == other.places and self.rows == other.rows


def note_cells(way):
    """The number of note cells of a way."""
    return 0 if isinstance(way, TableWay) else way.notes


def _is_row(row, places):
    return 1 <= len(row) <= MOST_WORKERS and all([-1 <= wish < places for wish in row])
