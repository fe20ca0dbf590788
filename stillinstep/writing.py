"""From an expression to its text."""

# How tightly a sign holds its operands together.
LEVELS = {
    "<": 1, "<=": 1, ">": 1, ">=": 1, "=": 1, "!=": 1,
    "+": 2, "-": 2,
    "*": 3, "div": 3, "mod": 3,
}
SUM_LEVEL = 2


def write_expression(expression):
    """The text with the fewest parentheses that reads back as the same expression."""
    kind = expression[0]
    if kind == "number":
        return str(expression[1])
    if kind == "name":
        return expression[1]
    if kind == "read":
        return f"{expression[1]}[{write_expression(expression[2])}]"
    if kind == "call":
        arguments = ", ".join([write_expression(part) for part in expression[2]])
        return f"{expression[1]}({arguments})"
    return _write_op(expression)


def _write_op(expression):
    _, sign, left, right = expression
    level = LEVELS[sign]
    # Sums and products lean to the left, but comparisons never stand side by side.
    left_text = _write_operand(left, max(level, SUM_LEVEL))
    right_text = _write_operand(right, level + 1)
    return f"{left_text} {sign} {right_text}"


def _write_operand(expression, least_level):
    text = write_expression(expression)
    if expression[0] == "op" and LEVELS[expression[1]] < least_level:
        return f"({text})"
    return text
