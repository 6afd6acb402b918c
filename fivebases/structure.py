"""Products, pairing, turning, skewing and splitting of symmetric functions.

Most of this is plain for power sums; so functions are brought to the base p,
and the results back.
"""

from fivebases.changes import change, converted, multiples_of_degree
from fivebases.errors import Refused
from fivebases.partition import joined, partitions, z_number
from fivebases.ratio import Ratio, total
from fivebases.symmetric import MOST_DEGREE, Symmetric, is_base

# The base whose functions have the inner products 1 and 0 with those of a base.
_DUAL_BASES = {"m": "h", "h": "m", "s": "s"}


def in_base(f, base):
    """The equal function of a base."""
    if not is_base(base):
        raise Refused("base")
    if base == f.base:
        return f
    pairs = []
    for n in range(f.degree() + 1):
        row = multiples_of_degree(f, n)
        if not all([multiple.is_zero() for multiple in row]):
            pairs.extend(list(zip(partitions(n), converted(n, row, f.base, base))))
    return Symmetric(base, pairs)


def _joined_product(f, g):
    """The product of two functions of one base, e, h or p."""
    return Symmetric(f.base, [
        (joined(part, other), multiple * more)
        for part, multiple in f.terms
        for other, more in g.terms
    ])


def product(f, g):
    """The product by the base of `f`."""
    # The degree -1 of zero never makes the sum too great, as 0 would not.
    if f.degree() + g.degree() > MOST_DEGREE:
        raise Refused("degree")
    base = f.base if f.base == g.base and f.base in ("e", "h", "p") else "p"
    return in_base(_joined_product(in_base(f, base), in_base(g, base)), f.base)


def inner(f, g):
    """The inner product."""
    if _DUAL_BASES.get(f.base) == g.base:
        return total([multiple * g.multiple(part) for part, multiple in f.terms])
    powers = in_base(g, "p")
    return total([
        multiple * powers.multiple(part) * Ratio(z_number(part))
        for part, multiple in in_base(f, "p").terms
    ])


def turned_function(f):
    """The turned function by the base of `f`."""
    turned = Symmetric("p", [
        (part, -multiple if (sum(part) - len(part)) % 2 == 1 else multiple)
        for part, multiple in in_base(f, "p").terms
    ])
    return in_base(turned, f.base)


def _parts_left(part, others):
    """The parts of a partition without those of another one, None if it lacks one of them."""
    left = list(part)
    for k in others:
        if k not in left:
            return None
        left.remove(k)
    return tuple(left)


def skewed(f, g):
    """The function `f / g` by the base of `f`."""
    powers, others = in_base(f, "p"), in_base(g, "p")
    pairs = []
    for part, multiple in powers.terms:
        for other, more in others.terms:
            rest = _parts_left(part, other)
            if rest is not None:
                # The derivatives give the quotient of the z numbers.
                factor = Ratio(z_number(part), z_number(rest))
                pairs.append((rest, multiple * more * factor))
    return in_base(Symmetric("p", pairs), f.base)


def _split_multiple(f, part, other):
    """The multiple of two partitions in the split of a function of the base p."""
    whole = joined(part, other)
    # The parts of the whole go to the one or the other one in so many ways.
    ways = Ratio(z_number(whole), z_number(part) * z_number(other))
    return f.multiple(whole) * ways


def _times(table, other):
    """The product of two tables."""
    columns = list(zip(*other))
    return [
        [total([x * y for x, y in zip(row, column)]) for column in columns]
        for row in table
    ]


def _split_at(f, n, k, base):
    """The triples of the degrees `k` and `n - k` of a function of the base p."""
    firsts, seconds = partitions(k), partitions(n - k)
    by_powers = [[_split_multiple(f, part, other) for other in seconds] for part in firsts]
    rows = _times(by_powers, change(n - k, "p", base))
    to_base = change(k, "p", base)
    table = _times(list(zip(*to_base)), rows)
    return [
        (part, other, multiple)
        for part, row in zip(firsts, table)
        for other, multiple in zip(seconds, row)
        if not multiple.is_zero()
    ]


def split(f, base):
    """The triples of two partitions and their multiple in the split by a base."""
    if not is_base(base):
        raise Refused("base")
    powers = in_base(f, "p")
    triples = []
    for n in range(powers.degree() + 1):
        if not powers.part_of(n).is_zero():
            for k in range(n + 1):
                triples.extend(_split_at(powers, n, k, base))
    return tuple(triples)
