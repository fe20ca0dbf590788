"""What a program consists of."""


class Program:
    """A step program, as read_program makes it from its text."""

    def __init__(self, lanes, arrays, body):
        self.lanes = lanes
        self.arrays = arrays
        self.body = body

    def __eq__(self, other):
        if not isinstance(other, Program):
            return False
        return self.lanes == other.lanes and self.arrays == other.arrays and self.body == other.body
