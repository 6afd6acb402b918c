"""Shapes and fillings found by trying everything, for tests of several modules."""

from itertools import product

from fivebases.partition import partitions


def boxes_of(outer, inner=()):
    """The boxes of a shape, row by row from the left to the right."""
    held = {(i, j) for i, part in enumerate(inner) for j in range(part)}
    return [(i, j) for i, part in enumerate(outer) for j in range(part) if (i, j) not in held]


def shapes(most):
    """All shapes whose outer partition has at most so many boxes."""
    every = [a for n in range(most + 1) for a in partitions(n)]
    return [(a, b) for a in every for b in every if set(boxes_of(b)) <= set(boxes_of(a))]


def rows_of(outer, inner, numbers):
    """The rows that have these numbers in the boxes of the shape."""
    rows = [[] for _ in outer]
    for (i, _), x in zip(boxes_of(outer, inner), numbers):
        rows[i].append(x)
    return tuple(map(tuple, rows))


def is_semistandard(outer, inner, numbers):
    table = dict(zip(boxes_of(outer, inner), numbers))
    for (i, j), x in table.items():
        if x > table.get((i, j + 1), x) or x >= table.get((i + 1, j), x + 1):
            return False
    return True


def every_filling(outer, most, inner=()):
    """All fillings with numbers from 1 to most, ascending, by trying all numbers."""
    many = len(boxes_of(outer, inner))
    return tuple(sorted(
        rows_of(outer, inner, numbers)
        for numbers in product(range(1, most + 1), repeat=many)
        if is_semistandard(outer, inner, numbers)))


def has_content(rows, content):
    numbers = [x for row in rows for x in row]
    return len(numbers) == sum(content) and all(numbers.count(k + 1) == many for k, many in enumerate(content))
