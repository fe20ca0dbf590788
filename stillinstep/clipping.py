"""The limit of all numbers that are kept."""

LIMIT = 10 ** 12


def clip(number):
    """The number itself, or the nearer end of -LIMIT to LIMIT if it lies beyond."""
    return max(-LIMIT, min(LIMIT, number))
