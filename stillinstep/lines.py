"""From a text to a program, line by line."""

from stillinstep.drafts import Draft
from stillinstep.errors import BadLine, NeedsRule, OutOfBounds
from stillinstep.flat import flat_steps
from stillinstep.lineforms import form_of
from stillinstep.parts import apart_assignments
from stillinstep.programs import Program
from stillinstep.tokens import tokens_of

MOST_STEPS = 48


def read_program(text):
    """The program of a text; raises the first error that its lines make."""
    lines = text.split("\n")
    draft = Draft()
    for line, line_text in enumerate(lines, start=1):
        tokens = tokens_of(line_text)
        if tokens != []:
            _take_line(draft, line, tokens)
    _check_end(draft, len(lines) + 1)
    program = Program(draft.lanes, tuple(draft.arrays), tuple(draft.body.statements))
    _check_rules(program, draft.body.step_lines)
    return program


def _take_line(draft, line, tokens):
    form = form_of(line, tokens)
    draft.check_place(line, form)
    draft.check_words(line, form)
    draft.check_bounds(line, form)
    draft.add_line(line, form)


def _check_end(draft, line):
    if not draft.is_complete():
        raise BadLine(line)
    if len(draft.body.step_lines) > MOST_STEPS:
        raise OutOfBounds(line)


def _check_rules(program, step_lines):
    for line, (rule, assignments, _) in zip(step_lines, flat_steps(program)):
        if rule == "" and not apart_assignments(assignments, program.lanes):
            raise NeedsRule(line)
