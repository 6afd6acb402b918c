"""Changes of base: tables that bring the functions of one base to another one."""

from fivebases.counting import count_matrices
from fivebases.errors import Malformed, Refused
from fivebases.partition import partitions, turned
from fivebases.ratio import is_integer, zero
from fivebases.symmetric import MOST_DEGREE, Symmetric, is_base


def zero_one_matrices(rows, columns):
    """The number of matrices of the items 0 and 1 with these sums of rows and columns."""
    return count_matrices("e", rows, columns)


def whole_matrices(rows, columns):
    """The number of matrices of whole items from 0 on with these sums of rows and columns."""
    return count_matrices("h", rows, columns)


def mergings(parts, sums):
    """The number of ways to put each part to one of the sums that has them as its sum."""
    if not parts or not sums:
        return int(not parts and not sums)
    # Each part is a row with one item alone that is not 0.
    return count_matrices("p", parts, sums)


def monomial_row(base, part):
    """The row of a base function in the table to m."""
    return multiples_of_degree(Symmetric(base, [(part, 1)]).meaning(), sum(part))


def multiples_of_degree(f, n):
    """The multiples of a function in its base for all partitions of `n`."""
    return tuple([f.multiple(part) for part in partitions(n)])


def _table(n, base):
    """The rows of the table from a base to m."""
    return [monomial_row(base, part) for part in partitions(n)]


def _pivots(n, base):
    """The pairs of a row and a column of the triangle of a base.

    In their order each row is the only one with an item other than 0 in its
    column, the rows before it left out. The triangles of e, p and s are those
    of their tables to m, that of h is the one of its table to s.
    """
    parts = partitions(n)
    if base == "e":
        return [(parts.index(turned(part)), k) for k, part in enumerate(parts)]
    diagonal = [(k, k) for k in range(len(parts))]
    return diagonal if base == "s" else diagonal[::-1]


def _combined(row, table, pivots):
    """By which multiples the rows of the table have the row as their sum."""
    left = list(row)
    found = [zero()] * len(left)
    for i, k in pivots:
        if not left[k].is_zero():
            multiple = left[k].over(table[i][k])
            found[i] = multiple
            left = [number - multiple * item for number, item in zip(left, table[i])]
    return tuple(found)


def _rows_from_m(n, rows, base):
    """Rows of multiples in the base m, brought to a base."""
    if base == "m":
        return rows
    if base != "h":
        table, pivots = _table(n, base), _pivots(n, base)
        return [_combined(row, table, pivots) for row in rows]
    # The table from h to s is the turned one from s to m.
    counts, pivots = _table(n, "s"), _pivots(n, "h")
    table = list(zip(*counts))
    return [_combined(row, table, pivots) for row in _rows_from_m(n, rows, "s")]


def _check_change(n, first, second):
    if not is_integer(n) or n < 0 or n > MOST_DEGREE:
        raise Refused("degree")
    if not is_base(first) or not is_base(second):
        raise Refused("base")


def change(n, one, two):
    """The table of the change from a base to another one in the degree `n`."""
    _check_change(n, one, two)
    return tuple(_rows_from_m(n, _table(n, one), two))


def converted(n, row, one, two):
    """The multiples in a base of the function with the multiples `row` in another one."""
    _check_change(n, one, two)
    parts = partitions(n)
    if not isinstance(row, tuple) or len(row) != len(parts):
        raise Malformed("there is not one multiple for each partition")
    f = Symmetric(one, list(zip(parts, row)))
    return _rows_from_m(n, [multiples_of_degree(f.meaning(), n)], two)[0]
