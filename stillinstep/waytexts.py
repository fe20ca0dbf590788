"""From a way of sharing to its text and back."""

from stillinstep.errors import BadLine, OutOfBounds, UnknownName
from stillinstep.expressions import uses_of
from stillinstep.lineforms import expression_in
from stillinstep.tokens import is_number, split_at, tokens_of
from stillinstep.ways import Way
from stillinstep.writing import write_expression

MOST_NOTES = 4


def write_way(way):
    """The text of a way."""
    lines = []
    if way.notes > 0:
        lines.append(f"notes {way.notes}")
    if way.note is not None:
        index, value = way.note
        lines.append(f"note {write_expression(index)} := {write_expression(value)}")
    lines.append(f"place {write_expression(way.place)}")
    return "\n".join(lines)


def read_way(text):
    """The way of a text; raises the first error that its lines make."""
    lines = text.split("\n")
    draft = WayDraft()
    for line, line_text in enumerate(lines, start=1):
        tokens = tokens_of(line_text)
        if tokens != []:
            draft.take_line(line, tokens)
    if draft.place is None:
        raise BadLine(len(lines) + 1)
    return Way(draft.place, notes=draft.notes, note=draft.note)


class WayDraft:
    """A way while its lines are read."""

    def __init__(self):
        self.notes = 0
        self.note = None
        self.place = None

    def take_line(self, line, tokens):
        """Adds what a line says; raises BadLine, UnknownName or OutOfBounds."""
        # Behind the place line there may be no other one.
        if tokens is None or self.place is not None:
            raise BadLine(line)
        if tokens[0] == "notes":
            self.take_notes(line, tokens[1:])
        elif tokens[0] == "note":
            self.take_note(line, tokens[1:])
        elif tokens[0] == "place":
            place = expression_in(line, tokens[1:])
            self.check_uses(line, place)
            self.place = place
        else:
            raise BadLine(line)

    def take_notes(self, line, tokens):
        """Adds the number of note cells."""
        if self.notes > 0 or len(tokens) != 1 or not is_number(tokens[0]):
            raise BadLine(line)
        notes = int(tokens[0])
        if notes < 1 or notes > MOST_NOTES:
            raise OutOfBounds(line)
        self.notes = notes

    def take_note(self, line, tokens):
        """Adds index and value of a note."""
        sides = split_at(tokens, ":=")
        if self.notes == 0 or self.note is not None or len(sides) != 2:
            raise BadLine(line)
        note = tuple([expression_in(line, side) for side in sides])
        for expression in note:
            self.check_uses(line, expression)
        self.note = note

    def check_uses(self, line, expression):
        """Raises UnknownName for the first word that may not stand in a way."""
        known = {
            "name": ("me", "workers", "places", "left"),
            "read": ("place", "note") if self.notes > 0 else ("place",),
            "call": ("min", "max", "pick", "nth"),
        }
        for kind, word in uses_of(expression):
            if word not in known[kind]:
                raise UnknownName(line, word)
