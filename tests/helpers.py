"""What several test files need."""

from stillinstep.lines import read_program
from stillinstep.machines import REGIONS
from stillinstep.reading import read_expression


class FakeProgram:
    """Has the fields of a program, for what must hold for any program."""

    def __init__(self, lanes, arrays, body=()):
        self.lanes = lanes
        self.arrays = arrays
        self.body = body

    def __eq__(self, other):
        return vars(self) == vars(other)


def ex(text):
    """The expression of a text."""
    return read_expression(text)


def program(*lines):
    """The program with these lines."""
    return read_program("\n".join(lines))


def is_plain(value):
    """Whether it is a number (not a bool), a string, None, or a tuple of such at every level."""
    if type(value) is tuple:
        return all(is_plain(item) for item in value)
    return value is None or type(value) in (int, str)


def check_plain(test, value):
    """Fails the test unless the value consists of tuples, numbers, strings and None alone."""
    test.assertTrue(is_plain(value), value)


def laid_bare(value):
    """A value as plain values of its own, with its kind and, for an object, its fields."""
    if isinstance(value, (list, tuple)):
        return type(value), [laid_bare(item) for item in value]
    if isinstance(value, dict):
        return dict, [(key, laid_bare(item)) for key, item in value.items()]
    if hasattr(value, "__dict__"):
        return type(value), laid_bare(vars(value))
    return type(value), value


def check_unchanged(test, function, *arguments, **named):
    """Calls the function, fails the test if what is passed does not stay as it was, returns the result."""
    before = laid_bare((arguments, named))
    result = function(*arguments, **named)
    test.assertEqual(before, laid_bare((arguments, named)))
    return result


def check_raises(test, error, fields, function, *arguments, **named):
    """Fails the test unless just this class is raised, with these fields (a dict)."""
    with test.assertRaises(error) as caught:
        function(*arguments, **named)
    test.assertIs(type(caught.exception), error)
    for field, wanted in fields.items():
        value = getattr(caught.exception, field)
        test.assertEqual((field, value), (field, wanted))
        test.assertIs(type(value), type(wanted))


def with_region(cells, region, numbers):
    """The cells with these numbers in a region."""
    at = REGIONS.index(region)
    return (*cells[:at], tuple(numbers), *cells[at + 1:])


def region_of(cells, region):
    """The numbers of a region."""
    return cells[REGIONS.index(region)]


def as_lists(value):
    """A value with a list in the place of each tuple, at every level."""
    return [as_lists(item) for item in value] if isinstance(value, (tuple, list)) else value
