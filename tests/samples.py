"""Functions for tests of several modules."""

from fivebases.partition import partitions
from fivebases.ratio import Ratio
from fivebases.symmetric import Symmetric, one

BASES = "mehps"


def sample(base, degrees, turn=0):
    """A function with many terms of these degrees, some negative, some broken, some left out."""
    parts = [part for n in degrees for part in partitions(n)]
    return Symmetric(base, [
        (part, Ratio((7 * k + 3 * turn) % 11 - 5, (k + turn) % 3 + 1)) for k, part in enumerate(parts)])


def base_functions(base, degrees):
    return [one(base, part) for n in degrees for part in partitions(n)]


def like(base, f, g):
    """True if both are functions of this base with equal terms."""
    return f.base == base and g.base == base and f.terms == g.terms
