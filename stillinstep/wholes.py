"""The bills of whole runs, and storms that reach them."""

from stillinstep.bills import dearest, dearest_storm
from stillinstep.errors import NotEnded
from stillinstep.leasts import least, least_storm
from stillinstep.plain import plain_run


def run_bounds(machine, data, *, most):
    """The least and the dearest bill of a whole run; raises NotEnded(most)."""
    parts = parts_of_run(machine, data, most)
    return parts * least(machine.crew, machine.works), parts * dearest(machine.crew, machine.works)


def dearest_run(machine, data, *, most):
    """A storm under which the whole run has its dearest bill; raises NotEnded(most)."""
    parts = parts_of_run(machine, data, most)
    # Each part begins at the start standing, behind the last word of the one before.
    return dearest_storm(machine.crew, machine.works) * parts


def least_run(machine, data, *, most):
    """A storm under which the whole run has its least bill; raises NotEnded(most)."""
    parts = parts_of_run(machine, data, most)
    return least_storm(machine.crew, machine.works) * parts


def parts_of_run(machine, data, most):
    """The number of parts of all steps of the plain run; raises NotEnded(most)."""
    steps, ended = plain_run(machine.program, data, most=most)
    if not ended:
        raise NotEnded(most)
    steps_of_code = [index for index, _ in machine.code]
    return sum([steps_of_code.count(index) for index, _ in steps])
