"""From the cells of a machine to their text and back."""

from stillinstep.errors import BadText
from stillinstep.machines import REGIONS, start_cells
from stillinstep.memory import cells_of
from stillinstep.tokens import is_number_run


def write_cells(machine, cells):
    """The text of the cells of a machine, a line for each region."""
    lines = []
    for region, numbers in zip(REGIONS, cells):
        lines.append(" ".join([region, *[str(number) for number in numbers]]))
    return "\n".join(lines)


def read_cells(machine, text):
    """The cells of a text; raises BadText(line)."""
    lines = text.split("\n")
    regions = start_cells(machine, (0,) * cells_of(machine.program))
    cells = []
    for line, (line_text, name, numbers) in enumerate(zip(lines, REGIONS, regions), start=1):
        words = line_text.split(" ")
        if words[0] != name or len(words) != 1 + len(numbers) or not all([_is_number(word) for word in words[1:]]):
            raise BadText(line)
        cells.append(tuple([int(word) for word in words[1:]]))
    if len(lines) != len(REGIONS):
        # The line that is missing, or the first one too many.
        raise BadText(len(cells) + 1)
    return tuple(cells)


def _is_number(word):
    if word.startswith("-"):
        return word != "-0" and is_number_run(word[1:])
    return is_number_run(word)
