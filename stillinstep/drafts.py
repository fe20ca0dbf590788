"""A program while its lines are read."""

from stillinstep.errors import BadLine, OutOfBounds, TakenName, UnknownName
from stillinstep.expressions import uses_of

MOST_LANES = 32
MOST_ARRAYS = 8
MOST_IN_ARRAY = 64
MOST_CELLS = 128
MOST_ASSIGNMENTS = 3
MOST_NUMBERS = 16
MOST_BLOCKS = 4


class Block:
    """An open block, or the body of the program itself, with its statements so far."""

    def __init__(self, form):
        self.form = form
        self.statements = []
        # For each flat step of the statements, in order, the line of its step line.
        self.step_lines = []

    def add_statement(self, statement, step_lines):
        """Adds a statement and the lines of its flat steps."""
        self.statements.append(statement)
        self.step_lines.extend(step_lines)


class Draft:
    """What the lines so far have told; each line is checked before it is added."""

    def __init__(self):
        self.lanes = None
        self.arrays = []
        self.body = Block(("body",))
        self.blocks = []

    def innermost(self):
        """The innermost open block, or the body of the program."""
        return self.blocks[-1] if self.blocks != [] else self.body

    def check_place(self, line, form):
        """Raises BadLine(line) if a line of this form may not stand here."""
        if not self.may_stand(form[0]):
            raise BadLine(line)

    def may_stand(self, kind):
        """Whether a line of this kind may be the next one."""
        if self.lanes is None or kind == "lanes":
            return self.lanes is None and kind == "lanes"
        if kind == "array":
            return self.blocks == [] and self.body.statements == []
        if self.arrays == []:
            return False
        block = self.innermost()
        if kind == "end":
            return block.form[0] == "for" and block.statements != []
        if kind == "while":
            return block.form[0] == "do" and block.statements != []
        return True

    def check_words(self, line, form):
        """Raises UnknownName or TakenName for the first word that is not right here."""
        if form[0] in ("array", "for"):
            if form[1] in self.array_names() or form[1] in self.for_names():
                raise TakenName(line, form[1])
        elif form[0] == "while":
            self.check_uses(line, form[1], ["lanes"])
        elif form[0] == "step":
            for array, place, value, when in form[2]:
                if array not in self.array_names():
                    raise UnknownName(line, array)
                for expression in (place, value, when):
                    if expression is not None:
                        self.check_uses(line, expression, ["me", "lanes"])

    def check_uses(self, line, expression, names):
        """Raises UnknownName for the first unknown word; names are known besides for blocks."""
        known = {"name": names + self.for_names(), "read": self.array_names(), "call": ["min", "max", "pick"]}
        for kind, word in uses_of(expression):
            if word not in known[kind]:
                raise UnknownName(line, word)

    def check_bounds(self, line, form):
        """Raises OutOfBounds(line) if the line breaks a bound."""
        if not self.is_within_bounds(form):
            raise OutOfBounds(line)

    def is_within_bounds(self, form):
        """Whether the line breaks no bound."""
        if form[0] == "lanes":
            return 1 <= form[1] <= MOST_LANES
        if form[0] == "array":
            cells = sum([size for _, size in self.arrays]) + form[2]
            return len(self.arrays) < MOST_ARRAYS and 1 <= form[2] <= MOST_IN_ARRAY and cells <= MOST_CELLS
        if form[0] == "step":
            return len(form[2]) <= MOST_ASSIGNMENTS
        if form[0] == "for" and len(form[2]) > MOST_NUMBERS:
            return False
        return form[0] not in ("for", "do") or len(self.blocks) < MOST_BLOCKS

    def add_line(self, line, form):
        """Adds what the line says."""
        if form[0] == "lanes":
            self.lanes = form[1]
        elif form[0] == "array":
            self.arrays.append((form[1], form[2]))
        elif form[0] == "step":
            self.innermost().add_statement(form, [line])
        elif form[0] in ("for", "do"):
            self.blocks.append(Block(form))
        else:
            self.close_block(form)

    def close_block(self, form):
        """Makes a statement of the innermost open block, by its end or while line."""
        block = self.blocks.pop()
        statements = tuple(block.statements)
        if form[0] == "while":
            self.innermost().add_statement(("do", statements, form[1]), block.step_lines)
        else:
            _, name, numbers = block.form
            self.innermost().add_statement(("for", name, numbers, statements), block.step_lines * len(numbers))

    def is_complete(self):
        """Whether the text may end here."""
        return self.blocks == [] and self.body.statements != []

    def array_names(self):
        """The names of the arrays so far."""
        return [name for name, _ in self.arrays]

    def for_names(self):
        """The names of the open for blocks."""
        return [block.form[1] for block in self.blocks if block.form[0] == "for"]
