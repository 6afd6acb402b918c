"""Counting behind the bases: matrices by their sums, and multiples of monomial sums.

The rows of a matrix are taken away from the sums of the columns, one after
the other. Only what is left of these sums matters then, in any order and
without zeros; so they are kept as a partition.
"""

from fivebases.fillings import count_fillings
from fivebases.partition import dominates, partitions, shares


def _ordered(sums):
    return tuple(sorted([number for number in sums if number > 0], reverse=True))


def _rests(base, sums, k):
    """What each row with the sum `k` leaves of the sums of the columns.

    The rows have the items 0 and 1 for the base e, whole items from 0 on for
    h, and one item alone that is not 0 for p.
    """
    if base == "p":
        return [
            _ordered(sums[:j] + (number - k,) + sums[j + 1:])
            for j, number in enumerate(sums)
            if number >= k
        ]
    limits = [1] * len(sums) if base == "e" else sums
    return [
        _ordered([number - t for number, t in zip(sums, row)])
        for row in shares(limits, k)
    ]


def count_matrices(base, rows, columns):
    """The number of matrices of the rows of a base, e, h or p, with these sums."""
    if sum(rows) != sum(columns):
        return 0
    counts = {_ordered(columns): 1}
    for k in rows:
        after = {}
        for sums in counts:
            for rest in _rests(base, sums, k):
                after[rest] = after.get(rest, 0) + counts[sums]
        counts = after
    return counts.get((), 0)


def monomial_multiples(base, part):
    """The dict from partitions to their multiples, integers, in a base function brought to m."""
    if base == "m":
        return {part: 1}
    if base == "s":
        # Other contents have no fillings.
        every = [other for other in partitions(sum(part)) if dominates(part, other)]
        return {other: count_fillings(part, other) for other in every}
    multiples = {(): 1}
    degree = 0
    # The rows of the matrices are added one after the other, so that what
    # is counted for the rows before serves all sums of the columns.
    for k in part:
        degree = degree + k
        multiples = {
            other: sum([multiples[rest] for rest in _rests(base, other, k)])
            for other in partitions(degree)
        }
    return multiples
