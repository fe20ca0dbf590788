"""Crews, works, storms and programs that are drawn, each by a random.Random of its own."""

from stillinstep.crews import Crew
from stillinstep.lines import read_program
from stillinstep.walks import start_standing, walk_tick

SIGNS = "+-0123456789"


def drawn_crew(chance, height=None, workers=None):
    """A crew with any seats and leanings."""
    height = height or chance.randint(1, 4)
    workers = workers or chance.randint(1, 16)
    leaves = 2 ** height
    seats = [chance.randrange(leaves) for _ in range(workers)]
    return Crew(height, seats, [[chance.randrange(2) for _ in range(leaves - 1)] for _ in range(workers)])


def drawn_works(chance, crew, most=16):
    """A number of turns for each leaf."""
    return tuple(chance.randint(1, most) for _ in range(crew.leaves))


def drawn_tick(chance, crew):
    """Some of the workers, in any order, often none or all."""
    many = chance.choice((0, 1, crew.workers, chance.randint(0, crew.workers)))
    return chance.sample(range(crew.workers), many)


def drawn_word(chance, workers, finishing=0.5):
    """A word with a + at each place with this probability, otherwise with any other sign."""
    return "".join("+" if chance.random() < finishing else chance.choice(SIGNS[1:]) for _ in range(workers))


def drawn_storm(chance, workers, ticks, finishing=0.5):
    """A storm of so many words."""
    return tuple(drawn_word(chance, workers, finishing) for _ in range(ticks))


def drawn_standings(chance, crew, works):
    """The standings of a row of drawn ticks from the start until the part is over."""
    standings = [start_standing(crew)]
    while not standings[-1][0][1]:
        standings.append(walk_tick(crew, works, standings[-1], drawn_tick(chance, crew)))
    return standings


ARRAYS = ("a", "b", "c")


def drawn_expression(chance, names, deep):
    """The text of an expression over these names and the arrays a, b and c."""
    kind = chance.randrange(8) if deep > 0 else chance.randrange(2)
    if kind == 0:
        return str(chance.choice((0, 1, 2, 3, 5, 7, 10 ** 12)))
    if kind == 1:
        return chance.choice(names)
    parts = [drawn_expression(chance, names, deep - 1) for _ in range(3)]
    if kind in (2, 3):
        return f"{chance.choice(ARRAYS)}[{parts[0]}]"
    if kind == 4:
        return f"pick({parts[0]}, {parts[1]}, {parts[2]})"
    if kind == 5:
        return f"{chance.choice(('min', 'max'))}({parts[0]}, {parts[1]})"
    sign = chance.choice(("+", "-", "*", "div", "mod", "<", "<=", ">", ">=", "=", "!="))
    return f"({parts[0]}) {sign} ({parts[1]})"


def drawn_assignment(chance, array, names, apart):
    """The text of an assignment, its place a line with a slope if it is to be apart."""
    if apart:
        place = chance.choice(("me", "me + 1", "2 * me", "3 - me", "lanes - 1 - me"))
    else:
        place = chance.choice((drawn_expression(chance, names, 1), "0", "me mod 2", "me - 1"))
    text = f"{array}[{place}] := {drawn_expression(chance, names, 2)}"
    return text + chance.choice(("", f" when {drawn_expression(chance, names, 1)}"))


def drawn_step(chance, names):
    """The text of a step line, with a rule or surely apart."""
    rule = chance.choice(("", "", "first", "sum", "most", "least"))
    many = chance.randint(1, 3)
    # A step without a rule assigns to each array once at most.
    arrays = [chance.choice(ARRAYS) for _ in range(many)] if rule else chance.sample(ARRAYS, many)
    text = " ; ".join(drawn_assignment(chance, array, names, not rule) for array in arrays)
    return f"step {rule} {text}"


def drawn_block(chance, names, deep):
    """The lines of a statement."""
    kind = chance.choice(("step", "step", "for", "do")) if deep > 0 else "step"
    if kind == "step":
        return [drawn_step(chance, names)]
    if kind == "for":
        name = f"i{deep}"
        numbers = " ".join(str(chance.randrange(4)) for _ in range(chance.randint(1, 3)))
        return [f"for {name} in {numbers}", *drawn_block(chance, (*names, name), deep - 1), "end"]
    inner = [line for _ in range(chance.randint(1, 2)) for line in drawn_block(chance, names, deep - 1)]
    bound = chance.choice(("t[0] mod 3", "t[0] < 4", "a[0] mod 2 = 1", "a[1] > b[0]", "0", "lanes < t[0] mod 5"))
    return ["do", *inner, "step first t[0] := t[0] + 1", f"while {bound}"]


def drawn_program(chance):
    """A program with the arrays a, b, c and t."""
    lines = [f"lanes {chance.choice((1, 2, 3, 4, 7, 16, 32))}"]
    lines += [f"array {array} {chance.randint(1, 12)}" for array in ARRAYS] + ["array t 1"]
    for _ in range(chance.randint(1, 3)):
        lines += drawn_block(chance, ("me", "lanes"), 2)
    return read_program("\n".join(lines))


def drawn_data(chance, program):
    """A memory of a program."""
    many = sum(size for _, size in program.arrays)
    return tuple(chance.choice((0, 0, 1, 2, 3, 5, -1, -4, 10 ** 12, -10 ** 12)) for _ in range(many))
