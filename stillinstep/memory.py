"""The memory of a program: the cells of all its arrays, one behind the other."""

from stillinstep.errors import NoArray, TooLong


def cells_of(program):
    """The number of cells of the memory."""
    return sum([size for _, size in program.arrays])


def offset_of(program, name):
    """The index of the first cell of an array; raises NoArray(name)."""
    offset = 0
    for array, size in program.arrays:
        if array == name:
            return offset
        offset += size
    raise NoArray(name)


def array_in(program, data, name):
    """The cells of one array; raises NoArray(name)."""
    arrays = arrays_in(program, data)
    if name not in arrays:
        raise NoArray(name)
    return arrays[name]


def arrays_in(program, data):
    """A dict from the names of all arrays to their cells."""
    arrays = {}
    offset = 0
    for name, size in program.arrays:
        arrays[name] = tuple(data[offset:offset + size])
        offset += size
    return arrays


def data_of(program, arrays):
    """The memory with these numbers in its arrays; raises NoArray(name), TooLong(name)."""
    sizes = dict(program.arrays)
    for name, numbers in arrays.items():
        if name not in sizes:
            raise NoArray(name)
        if len(numbers) > sizes[name]:
            raise TooLong(name)
    data = []
    for name, size in program.arrays:
        numbers = list(arrays.get(name, ()))
        data.extend(numbers + [0] * (size - len(numbers)))
    return tuple(data)
