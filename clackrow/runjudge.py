"""The judge of a run."""

from clackrow.errors import Shut, Together, TooMany
from clackrow.runs import comings


def lets_run(row, walls, t, some):
    """Whether some are just the comings to t; False where the run is refused."""
    try:
        told = comings(row, walls, t)
    except (Shut, Together, TooMany):
        return False
    return list(some) == told
