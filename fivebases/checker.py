"""The checker: it reads papers, and counts what they should say by walks of its own.

So that it finds the faults of the other modules, it calls no function of
those for fillings, insertion, changes of base and products.
"""

from fivebases.partition import is_partition, partitions_within
from fivebases.ratio import Ratio, is_integer, zero
from fivebases.symmetric import MOST_DEGREE, Symmetric, is_base


def _partitions(n):
    return partitions_within(n, n)


def _amounts(base, left):
    """For each row, the amounts that one column can take of what is left of the row.

    In the rows of p, one item alone is not 0; so a column takes a row as a
    whole or not at all. For s the rows are those of a shape, and a column of
    the matrix is the level strip of the boxes with one number: it leaves each
    row as long as the row below was.
    """
    if base == "e":
        return [list(range(min(number, 1) + 1)) for number in left]
    if base == "h":
        return [list(range(number + 1)) for number in left]
    if base == "p":
        return [[0, number] if number > 0 else [0] for number in left]
    return [list(range(number - below + 1)) for number, below in zip(left, left[1:] + (0,))]


def _columns(amounts, k):
    """The columns with one of the amounts of each row and the sum `k`."""
    found = [((), k)]
    for choices in amounts:
        found = [
            (column + (t,), wanted - t)
            for column, wanted in found
            for t in choices
            if t <= wanted
        ]
    return [column for column, wanted in found if wanted == 0]


def _after_column(base, counts, k):
    """What can be left of the rows behind a column with the sum `k`, with the number of ways.

    The order of what is left of the rows does not matter.
    """
    after = {}
    for left in counts:
        for column in _columns(_amounts(base, left), k):
            rest = tuple(sorted([number - t for number, t in zip(left, column)], reverse=True))
            after[rest] = after.get(rest, 0) + counts[left]
    return after


def _walked(base, counts, n, most):
    """The numbers of ways to take all, for each partition of `n` without a part above `most`.

    Partitions that begin alike share the walk over the columns of the
    beginning. For s the boxes of the first number are taken from outside:
    the order of a content does not change the number of its fillings.
    """
    if n == 0:
        return [sum([counts[left] for left in counts])]
    return [
        number
        for k in range(min(n, most), 0, -1)
        for number in _walked(base, _after_column(base, counts, k), n - k, k)
    ]


def monomial_row(base, partition):
    """The multiples, integers, of the monomial functions in the function of a base."""
    n = sum(partition)
    if base == "m":
        return tuple([int(part == partition) for part in _partitions(n)])
    return tuple(_walked(base, {partition: 1}, n, n))


def _without(parts, k):
    """The parts without one `k`, which is one of them or 0."""
    if k == 0:
        return parts
    at = parts.index(k)
    return parts[:at] + parts[at + 1:]


def _after_letter(counts, k):
    """What can be left of two rows of exponents behind a letter with the sum `k`."""
    after = {}
    for one, two in counts:
        for item in sorted(set(one + (0,))):
            if item == k or k - item in two:
                rest = (_without(one, item), _without(two, k - item))
                after[rest] = after.get(rest, 0) + counts[(one, two)]
    return after


def _count_pairs(one, two, sums):
    """The number of pairs of rows of exponents with these sums."""
    counts = {(one, two): 1}
    for k in sums:
        counts = _after_letter(counts, k)
    return counts.get(((), ()), 0)


def monomial_product(one, two):
    """The multiples, integers, of the monomial functions in the product of two of them."""
    return tuple([_count_pairs(one, two, sums) for sums in _partitions(sum(one) + sum(two))])


def _has_head(paper, word, many):
    """True if the paper is a tuple of so many items that begins with the word."""
    return isinstance(paper, tuple) and len(paper) == many and paper[0] == word


def _is_row(value, many):
    """True if the value is a tuple of so many `Ratio`."""
    if not isinstance(value, tuple) or len(value) != many:
        return False
    return all([isinstance(item, Ratio) for item in value])


def _is_term(value):
    """True if the value is a pair of a partition of at most 8 and a `Ratio` other than 0."""
    if not isinstance(value, tuple) or len(value) != 2:
        return False
    part, multiple = value
    if not is_partition(part) or sum(part) > MOST_DEGREE:
        return False
    return isinstance(multiple, Ratio) and not multiple.is_zero()


def _stands_before(part, other):
    """True if a partition stands before another one in functions."""
    if sum(part) != sum(other):
        return sum(part) < sum(other)
    return part > other


def _are_terms(value):
    """True if the value is a tuple of pairs as a function has them, in their order."""
    if not isinstance(value, tuple) or not all([_is_term(item) for item in value]):
        return False
    parts = [part for part, _ in value]
    return all([_stands_before(part, other) for part, other in zip(parts, parts[1:])])


def _ratios(row):
    return [Ratio(number) for number in row]


def _sum_of_rows(multiples, rows, many):
    """The sum of the multiples of rows of so many numbers."""
    sums = [zero()] * many
    for multiple, row in zip(multiples, rows):
        if not multiple.is_zero():
            sums = [number + multiple * item for number, item in zip(sums, row)]
    return sums


def _monomial_sums(base, terms):
    """For each degree, the multiples of the monomial functions in a sum of terms of a base."""
    found = []
    for n in range(MOST_DEGREE + 1):
        chosen = [(part, multiple) for part, multiple in terms if sum(part) == n]
        rows = [_ratios(monomial_row(base, part)) for part, _ in chosen]
        multiples = [multiple for _, multiple in chosen]
        found.append(_sum_of_rows(multiples, rows, len(_partitions(n))))
    return found


def _product_terms(base, one, two):
    """The product of two functions of a base, multiplied out to terms of the base m."""
    degree = sum(one) + sum(two)
    numbers = [0] * len(_partitions(degree))
    for part, times in zip(_partitions(sum(one)), monomial_row(base, one)):
        for other, more in zip(_partitions(sum(two)), monomial_row(base, two)):
            if times != 0 and more != 0:
                counts = monomial_product(part, other)
                numbers = [number + times * more * count for number, count in zip(numbers, counts)]
    return list(zip(_partitions(degree), _ratios(numbers)))


def takes_change(paper):
    """True if the value is a paper of a change, and its table is the right one."""
    if not _has_head(paper, "change", 5):
        return False
    _, n, one, two, rows = paper
    if not is_integer(n) or n < 0 or n > MOST_DEGREE or not is_base(one) or not is_base(two):
        return False
    parts = _partitions(n)
    many = len(parts)
    if not isinstance(rows, tuple) or len(rows) != many or not all([_is_row(row, many) for row in rows]):
        return False
    table = [_ratios(monomial_row(two, part)) for part in parts]
    return all([
        _sum_of_rows(row, table, many) == _ratios(monomial_row(one, part))
        for part, row in zip(parts, rows)
    ])


def takes_expansion(f, paper):
    """True if the value is a paper of an expansion, and its sum is the function."""
    if not isinstance(f, Symmetric) or not _has_head(paper, "expansion", 3):
        return False
    _, base, pairs = paper
    if not is_base(base) or not _are_terms(pairs):
        return False
    return _monomial_sums(base, pairs) == _monomial_sums(f.base, f.terms)


def takes_product(paper):
    """True if the value is a paper of a product, and its sum is the product."""
    if not _has_head(paper, "product", 5):
        return False
    _, base, one, two, pairs = paper
    if not is_base(base) or not is_partition(one) or not is_partition(two):
        return False
    if sum(one) + sum(two) > MOST_DEGREE or not _are_terms(pairs):
        return False
    return _monomial_sums(base, pairs) == _monomial_sums("m", _product_terms(base, one, two))
