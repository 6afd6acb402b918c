"""Putting one symmetric function into another one, and strips of partitions."""

from fivebases.errors import Refused
from fivebases.ratio import zero
from fivebases.structure import in_base, product
from fivebases.symmetric import MOST_DEGREE, Symmetric


def _raised(g, k):
    """A function of the base p with the number of each power sum times `k`."""
    return Symmetric("p", [
        (tuple([k * j for j in part]), multiple) for part, multiple in g.terms
    ])


def put(f, g):
    """The function `f[g]` by the base of `f`."""
    # The degree -1 of zero never makes the product too great, as 0 would not.
    if f.degree() * g.degree() > MOST_DEGREE:
        raise Refused("degree")
    if g.multiple(()) != zero():
        raise Refused("constant")
    powers = in_base(g, "p")
    result = Symmetric("p", [])
    for part, multiple in in_base(f, "p").terms:
        term = Symmetric("p", [((), multiple)])
        for k in part:
            term = product(term, _raised(powers, k))
        result = result + term
    return in_base(result, f.base)


def _partition_of_ends(ends):
    """The partition of descending numbers, each one a part and the number of rows below it."""
    below = len(ends) - 1
    parts = [end - (below - i) for i, end in enumerate(ends)]
    return tuple([part for part in parts if part > 0])


def strips(part, k):
    """The pairs of a rest and a height of all strips of the length `k`, in the order of the rests."""
    ends = [number + len(part) - 1 - i for i, number in enumerate(part)]
    found = []
    # A strip that begins in a row lowers the end of this row by its length,
    # and passes each row whose end lies between. Equal ends would leave no
    # partition. Rests of strips that begin further below come first.
    for i in range(len(ends) - 1, -1, -1):
        end = ends[i] - k
        if end >= 0 and end not in ends:
            passed = [other for other in ends[i + 1:] if other > end]
            after = ends[:i] + passed + [end] + ends[i + 1 + len(passed):]
            found.append((_partition_of_ends(after), len(passed)))
    return tuple(found)


def strip_value(part, by):
    """The strip value of a partition by another one, an integer."""
    if sum(part) != sum(by):
        return 0
    values = {part: 1}
    for k in by:
        after = {}
        for whole in values:
            for rest, height in strips(whole, k):
                signed = -values[whole] if height % 2 == 1 else values[whole]
                after[rest] = after.get(rest, 0) + signed
        values = after
    return values.get((), 0)
