"""The value of an expression and the words that it uses."""

from stillinstep.clipping import clip


def value_of(expression, names, arrays):
    """The value of an expression, by a dict of numbers and a dict of arrays."""
    kind = expression[0]
    if kind == "number":
        return expression[1]
    if kind == "name":
        return names[expression[1]]
    values = [value_of(part, names, arrays) for part in operands_of(expression)]
    if kind == "read":
        return _cell_of(arrays[expression[1]], values[0])
    if kind == "op":
        return _joined_value(expression[1], values[0], values[1])
    return _called_value(expression[1], values, arrays)


def words_of(expression):
    """The words of its names, of its arrays and of its calls, each an ascending tuple."""
    uses = uses_of(expression)
    return _ascending(uses, "name"), _ascending(uses, "read"), _ascending(uses, "call")


def operands_of(expression):
    """The expressions of which an expression is made directly, in the order of the text."""
    kind = expression[0]
    if kind == "read":
        return (expression[2],)
    if kind == "op":
        return (expression[2], expression[3])
    if kind == "call":
        return expression[2]
    return ()


def uses_of(expression):
    """The pairs (kind, word) of all names, reads and calls, in the order of the text."""
    uses = []
    if expression[0] in ("name", "read", "call"):
        uses.append((expression[0], expression[1]))
    for part in operands_of(expression):
        uses.extend(uses_of(part))
    return uses


def _ascending(uses, wanted):
    return tuple(sorted({word for kind, word in uses if kind == wanted}))


def _cell_of(array, at):
    # An index below 0 must not count from the end, as Python's own would.
    return array[at] if 0 <= at < len(array) else 0


def _joined_value(sign, left, right):
    if sign == "+":
        return clip(left + right)
    if sign == "-":
        return clip(left - right)
    if sign == "*":
        return clip(left * right)
    if sign == "div":
        return left // right if right != 0 else 0
    if sign == "mod":
        return left - right * (left // right) if right != 0 else 0
    return 1 if _holds(sign, left, right) else 0


def _holds(sign, left, right):
    if sign == "<":
        return left < right
    if sign == "<=":
        return left <= right
    if sign == ">":
        return left > right
    if sign == ">=":
        return left >= right
    if sign == "=":
        return left == right
    return left != right


def _called_value(word, values, arrays):
    if word == "min":
        return min(values)
    if word == "max":
        return max(values)
    if word == "pick":
        return values[1] if values[0] != 0 else values[2]
    return _index_of_zero(arrays["place"], values[0])


def _index_of_zero(array, number):
    zeros = [at for at, cell in enumerate(array) if cell == 0]
    return zeros[number] if 0 <= number < len(zeros) else -1
