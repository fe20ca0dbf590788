"""From a program to its text."""

from stillinstep.writing import write_expression

INDENTATION = "  "


def write_program(program):
    """The text of a program, one line for each of its lines."""
    lines = [f"lanes {program.lanes}"]
    for name, size in program.arrays:
        lines.append(f"array {name} {size}")
    lines.extend(_body_lines(program.body, ""))
    return "\n".join(lines)


def _body_lines(body, before):
    lines = []
    for statement in body:
        if statement[0] == "step":
            lines.append(before + _write_step(statement))
        elif statement[0] == "for":
            _, name, numbers, inner = statement
            words = " ".join([str(number) for number in numbers])
            lines.append(f"{before}for {name} in {words}")
            lines.extend(_body_lines(inner, before + INDENTATION))
            lines.append(f"{before}end")
        else:
            _, inner, condition = statement
            lines.append(f"{before}do")
            lines.extend(_body_lines(inner, before + INDENTATION))
            lines.append(f"{before}while {write_expression(condition)}")
    return lines


def _write_step(statement):
    _, rule, assignments = statement
    text = " ; ".join([_write_assignment(assignment) for assignment in assignments])
    if rule == "":
        return f"step {text}"
    return f"step {rule} {text}"


def _write_assignment(assignment):
    array, place, value, when = assignment
    text = f"{array}[{write_expression(place)}] := {write_expression(value)}"
    if when is None:
        return text
    return f"{text} when {write_expression(when)}"
