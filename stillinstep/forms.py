"""Formulas for parts in which every leaf needs the same number of turns."""


def bits_bill(height, *, bits, work):
    """The dearest bill of the crew by bits."""
    if bits <= height:
        return ((work + 5) * (1 << (height - bits)) + 3) * _power_of_3(bits) - (height + 7) * (1 << bits)
    return (1 << (bits - height)) * ((work + 8) * _power_of_3(height) - (height + 7) * (1 << height))


def floor_bill(height, *, workers, work):
    """A number below which no crew with so many workers has its dearest bill."""
    return _floor_with_root_turns(height, workers, work) - height * workers


def calm_ticks(height, *, bits, work):
    """The ticks behind which the part is over if all workers of the crew by bits finish in each of them."""
    shared = min(bits, height)
    alone = height - shared
    return (work + 5) * (1 << alone) - alone - 4 + 2 * shared


def _power_of_3(exponent):
    power = 1
    for _ in range(exponent):
        power *= 3
    return power


def _floor_with_root_turns(height, many, work):
    if height == 0:
        return many * (work + 1)
    half = (many + 1) // 2
    below = _floor_with_root_turns(height - 1, many, work) + _floor_with_root_turns(height - 1, half, work)
    return below + 3 * many + half
