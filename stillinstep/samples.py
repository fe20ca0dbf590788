"""The texts of sample programs.

A read beyond an array gives 0 and a wish beyond it writes nothing: many of the steps count on this.
"""


def sums_text(n):
    """Sums of all beginnings of a."""
    return _text(n, [("a", n)], [
        "for hop in 1 2 4 8 16",
        "step a[me] := a[me] + a[me - hop]",
        "end",
    ])


def sort_text(n):
    """Puts a in ascending order: neighbours exchange, in turn those of even and of odd index."""
    right = "pick(me + 1 < lanes, min(a[me], a[me + 1]), a[me])"
    left = "pick(me > 0, max(a[me], a[me - 1]), a[me])"
    return _text(n, [("a", n)], [
        _for_line("t", n),
        f"step a[me] := pick((me + t) mod 2 = 0, {right}, {left})",
        "end",
    ])


def ranks_text(n):
    """How far each index is from the end to which after leads, and that end."""
    return _text(n, [("after", n), ("rank", n)], [
        "step rank[me] := after[me] != me",
        "for t in 1 2 3 4",
        "step rank[me] := rank[me] + rank[after[me]] ; after[me] := after[after[me]]",
        "end",
    ])


def ways_text(n):
    """The least lengths of ways over arcs with the lengths d."""
    return _text(n * n, [("d", n * n)], [
        _for_line("k", n),
        f"step d[me] := min(d[me], d[me div {n} * {n} + k] + d[k * {n} + me mod {n}])",
        "end",
    ])


def groups_text(n, m):
    """The least number with which each number is joined by edges."""
    least_label = "min(label[one[me]], label[two[me]])"
    # A lane without an edge reads 0 twice, and joins 0 with itself.
    return _text(max(n, m), [("one", m), ("two", m), ("label", n)], [
        "step label[me] := me",
        _for_line("t", n),
        f"step least label[one[me]] := {least_label} ; label[two[me]] := {least_label}",
        "end",
    ])


def counts_text(n, k):
    """How often each number below k stands in a."""
    return _text(max(n, k), [("a", n), ("count", k)], [
        "step count[me] := 0",
        f"step sum count[a[me]] := 1 when me < {n}",
    ])


def top_text(n):
    """The greatest number of a and where it stands first."""
    return _text(n, [("a", n), ("best", 2)], [
        "step most best[0] := a[me]",
        "step least best[1] := me when a[me] = best[0]",
    ])


def brackets_text(n):
    """Whether the brackets of a match."""
    return _text(n, [("a", n), ("still", n), ("good", 1)], [
        "step still[me] := (a[me] = 1) - (a[me] = 2)",
        "for hop in 1 2 4 8 16",
        "step still[me] := still[me] + still[me - hop]",
        "end",
        "step least good[0] := pick(me + 1 < lanes, still[me] >= 0, still[me] = 0)",
    ])


def cells_text(n, rule, rounds):
    """The rows of a ring of cells, each made from the one before by a rule."""
    left = "a[(me + lanes - 1) mod lanes]"
    right = "a[(me + 1) mod lanes]"
    weight = f"pick({left}, 16, 1) * pick(a[me], 4, 1) * pick({right}, 2, 1)"
    return _text(n, [("a", n)], [
        _for_line("t", rounds),
        f"step a[me] := {rule} div ({weight}) mod 2",
        "end",
    ])


def order_text(n):
    """The numbers of a in ascending order, in two steps: each lane compares two of them."""
    one = f"me div {n}"
    other = f"me mod {n}"
    # Of equal numbers the one with the lower index comes first.
    is_behind = f"pick({other} < {one}, a[{other}] <= a[{one}], a[{other}] < a[{one}])"
    return _text(n * n, [("a", n), ("out", n), ("rank", n)], [
        f"step sum rank[{one}] := {is_behind}",
        f"step first out[rank[me]] := a[me] when me < {n}",
    ])


def adds_text(n):
    """The binary digits of a sum: in each step the carries come one digit further."""
    return _text(n + 1, [("x", n), ("y", n), ("z", n + 1), ("carry", n + 1)], [
        "step carry[me] := 0",
        _for_line("t", n),
        "step carry[me] := (x[me - 1] + y[me - 1] + carry[me - 1]) div 2",
        "end",
        "step z[me] := (x[me] + y[me] + carry[me]) mod 2",
    ])


def _text(lanes, arrays, body):
    array_lines = [f"array {name} {size}" for name, size in arrays]
    return "\n".join([f"lanes {lanes}", *array_lines, *body])


def _for_line(name, many):
    """A for line with so many numbers, from 0 on."""
    numbers = " ".join([str(number) for number in range(many)])
    return f"for {name} in {numbers}"
