"""From crews and storms to their texts and back."""

from stillinstep.crews import MOST_HEIGHT, MOST_WORKERS, Crew
from stillinstep.errors import BadStorm, BadText
from stillinstep.storms import check_storm


def write_crew(crew):
    """The text of a crew."""
    lines = [f"height {crew.height}"]
    for seat, leanings in zip(crew.seats, crew.leanings):
        digits = "".join([str(leaning) for leaning in leanings])
        lines.append(f"{seat} {digits}")
    return "\n".join(lines)


def read_crew(text):
    """The crew of a text; raises BadText(line)."""
    lines = text.split("\n")
    height = _height_of(lines[0])
    if height is None:
        raise BadText(1)
    seats = []
    leanings = []
    for line, line_text in enumerate(lines[1:], start=2):
        worker = _worker_of(line_text, height)
        if worker is None or len(seats) == MOST_WORKERS:
            raise BadText(line)
        seat, row = worker
        seats.append(seat)
        leanings.append(row)
    if seats == []:
        raise BadText(2)
    return Crew(height, seats, leanings)


def write_storm(storm):
    """The text of a storm."""
    return "\n".join(storm)


def read_storm(text, *, workers):
    """The storm of a text; raises BadText(line)."""
    storm = () if text == "" else tuple(text.split("\n"))
    try:
        check_storm(storm, workers)
    except BadStorm as bad:
        raise BadText(bad.tick + 1) from None
    return storm


def _height_of(line_text):
    for height in range(1, MOST_HEIGHT + 1):
        if line_text == f"height {height}":
            return height
    return None


def _worker_of(line_text, height):
    """The pair (seat, leanings) of a line, or None if it is not that of a worker."""
    leaves = 1 << height
    words = line_text.split(" ")
    seats = [str(seat) for seat in range(leaves)]
    if len(words) != 2 or words[0] not in seats or len(words[1]) != leaves - 1:
        return None
    if not all([sign in "01" for sign in words[1]]):
        return None
    return (seats.index(words[0]), [int(sign) for sign in words[1]])
