"""Crews, works, storms and programs that are drawn, each by a random.Random of its own."""

from stillinstep.crews import Crew
from stillinstep.lines import read_program
from stillinstep.reading import read_expression
from stillinstep.walks import start_standing, walk_tick
from stillinstep.ways import TableWay, Way

SIGNS = "+-0123456789"


def drawn_crew(chance, height=None, workers=None):
    """A crew with any seats and leanings."""
    height = height or chance.randint(1, 4)
    workers = workers or chance.randint(1, 16)
    leaves = 2 ** height
    seats = [chance.randrange(leaves) for _ in range(workers)]
    return Crew(height, seats, [[chance.randrange(2) for _ in range(leaves - 1)] for _ in range(workers)])


def drawn_works(chance, crew, most=16):
    """A number of turns for each leaf."""
    return tuple(chance.randint(1, most) for _ in range(crew.leaves))


def drawn_tick(chance, crew):
    """Some of the workers, in any order, often none or all."""
    many = chance.choice((0, 1, crew.workers, chance.randint(0, crew.workers)))
    return chance.sample(range(crew.workers), many)


def drawn_word(chance, workers, finishing=0.5):
    """A word with a + at each place with this probability, otherwise with any other sign."""
    return "".join("+" if chance.random() < finishing else chance.choice(SIGNS[1:]) for _ in range(workers))


def drawn_storm(chance, workers, ticks, finishing=0.5):
    """A storm of so many words."""
    return tuple(drawn_word(chance, workers, finishing) for _ in range(ticks))


def drawn_standings(chance, crew, works):
    """The standings of a row of drawn ticks from the start until the part is over."""
    standings = [start_standing(crew)]
    while not standings[-1][0][1]:
        standings.append(walk_tick(crew, works, standings[-1], drawn_tick(chance, crew)))
    return standings


ARRAYS = ("a", "b", "c")


def drawn_expression(chance, names, deep, arrays=ARRAYS):
    """The text of an expression over these names and arrays."""
    kind = chance.randrange(8) if deep > 0 else chance.randrange(2)
    if kind == 0:
        return str(chance.choice((0, 1, 2, 3, 5, 7, 10 ** 12)))
    if kind == 1:
        return chance.choice(names)
    parts = [drawn_expression(chance, names, deep - 1, arrays) for _ in range(3)]
    if kind in (2, 3):
        return f"{chance.choice(arrays)}[{parts[0]}]"
    if kind == 4:
        return f"pick({parts[0]}, {parts[1]}, {parts[2]})"
    if kind == 5:
        return f"{chance.choice(('min', 'max'))}({parts[0]}, {parts[1]})"
    sign = chance.choice(("+", "-", "*", "div", "mod", "<", "<=", ">", ">=", "=", "!="))
    return f"({parts[0]}) {sign} ({parts[1]})"


def drawn_assignment(chance, array, names, apart):
    """The text of an assignment, its place a line with a slope if it is to be apart."""
    if apart:
        place = chance.choice(("me", "me + 1", "2 * me", "3 - me", "lanes - 1 - me"))
    else:
        place = chance.choice((drawn_expression(chance, names, 1), "0", "me mod 2", "me - 1"))
    text = f"{array}[{place}] := {drawn_expression(chance, names, 2)}"
    return text + chance.choice(("", f" when {drawn_expression(chance, names, 1)}"))


def drawn_step(chance, names):
    """The text of a step line, with a rule or surely apart."""
    rule = chance.choice(("", "", "first", "sum", "most", "least"))
    many = chance.randint(1, 3)
    # A step without a rule assigns to each array once at most.
    arrays = [chance.choice(ARRAYS) for _ in range(many)] if rule else chance.sample(ARRAYS, many)
    text = " ; ".join(drawn_assignment(chance, array, names, not rule) for array in arrays)
    return f"step {rule} {text}"


def drawn_block(chance, names, deep):
    """The lines of a statement."""
    kind = chance.choice(("step", "step", "for", "do")) if deep > 0 else "step"
    if kind == "step":
        return [drawn_step(chance, names)]
    if kind == "for":
        name = f"i{deep}"
        numbers = " ".join(str(chance.randrange(4)) for _ in range(chance.randint(1, 3)))
        return [f"for {name} in {numbers}", *drawn_block(chance, (*names, name), deep - 1), "end"]
    inner = [line for _ in range(chance.randint(1, 2)) for line in drawn_block(chance, names, deep - 1)]
    bound = chance.choice(("t[0] mod 3", "t[0] < 4", "a[0] mod 2 = 1", "a[1] > b[0]", "0", "lanes < t[0] mod 5"))
    return ["do", *inner, "step first t[0] := t[0] + 1", f"while {bound}"]


def drawn_program(chance):
    """A program with the arrays a, b, c and t."""
    lines = [f"lanes {chance.choice((1, 2, 3, 4, 7, 16, 32))}"]
    lines += [f"array {array} {chance.randint(1, 12)}" for array in ARRAYS] + ["array t 1"]
    for _ in range(chance.randint(1, 3)):
        lines += drawn_block(chance, ("me", "lanes"), 2)
    return read_program("\n".join(lines))


def drawn_data(chance, program):
    """A memory of a program."""
    many = sum(size for _, size in program.arrays)
    return tuple(chance.choice((0, 0, 1, 2, 3, 5, -1, -4, 10 ** 12, -10 ** 12)) for _ in range(many))


def drawn_way_text(chance, arrays):
    """The text of an expression of a way over these arrays."""
    text = drawn_expression(chance, ("me", "workers", "places", "left"), 2, arrays)
    return chance.choice(("{}", "nth({})", "nth(({}) mod left)", "({}) mod places", "(me + {}) mod workers")).format(text)


def drawn_way(chance, notes=None):
    """A way by expressions, with this number of note cells."""
    notes = chance.randint(0, 4) if notes is None else notes
    arrays = ("place", "note") if notes else ("place",)
    place = read_expression(drawn_way_text(chance, arrays))
    if notes == 0 or chance.random() < 0.2:
        return Way(place, notes=notes)
    return Way(place, notes=notes, note=[read_expression(drawn_way_text(chance, arrays)) for _ in range(2)])


def drawn_table(chance, places=None, workers=None, busy=0.5):
    """A table way, with this probability one under which nobody is idle."""
    places = places or chance.randint(1, 4)
    workers = workers or chance.randint(1, 5)
    is_busy = chance.random() < busy
    rows = []
    for number in range(2 ** places):
        left = [place for place in range(places) if not number >> place & 1]
        wishes = left if is_busy and left else range(-1, places)
        rows.append([chance.choice(wishes) for _ in range(workers)])
    return TableWay(places, rows)


def drawn_state(chance, places, notes):
    """Any state, whether a storm reaches it or not."""
    numbers = (0, 0, 1, 2, 5, -1, -7, 10 ** 12, -10 ** 12)
    return (tuple(chance.randrange(2) for _ in range(places)), tuple(chance.choice(numbers) for _ in range(notes)))
