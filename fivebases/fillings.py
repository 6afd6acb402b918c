"""Semistandard fillings of shapes with numbers from 1 on."""

from fivebases.partition import holds, shares
from fivebases.ratio import is_integer


def _starts(inner, many):
    """The first column of each of so many rows beside the inner partition."""
    return inner + (0,) * (many - len(inner))


def _is_row(row, many):
    """True if `row` has so many numbers from 1 on that do not descend."""
    if not isinstance(row, tuple) or len(row) != many:
        return False
    if not all([is_integer(x) and x > 0 for x in row]):
        return False
    return all([x <= y for x, y in zip(row, row[1:])])


def is_filling(rows, outer, inner=()):
    """True if `rows` is a filling of the shape, for every value of `rows`."""
    if not isinstance(rows, tuple) or len(rows) != len(outer) or not holds(outer, inner):
        return False
    starts = _starts(inner, len(outer))
    if not all([_is_row(row, part - start) for row, part, start in zip(rows, outer, starts)]):
        return False
    for i in range(1, len(rows)):
        # The row below begins further to the left; what begins under
        # the first number above it is compared.
        covered = rows[i][starts[i - 1] - starts[i]:]
        if not all([x < y for x, y in zip(rows[i - 1], covered)]):
            return False
    return True


def _strips_up(outer, shape, k, later):
    """The shapes within `outer` with a level strip of `k` boxes more.

    Shapes have a zero for each empty row. Each of the `later` strips adds to
    a row no more than the row above had before it; so a row that is to be as
    long as the outer one must not be shorter now than the outer one is so
    many rows further below. This leaves out shapes that lead nowhere.
    """
    ahead = outer[later:] + (0,) * min(later, len(outer))
    least = [max(part, needed) for part, needed in zip(shape, ahead)]
    most = [min(part, above) for part, above in zip(outer, outer[:1] + shape)]
    if any([low > high for low, high in zip(least, most)]):
        return []
    free = k - sum(least) + sum(shape)
    limits = [high - low for low, high in zip(least, most)]
    return [tuple([low + t for low, t in zip(least, shared)]) for shared in shares(limits, free)]


def _is_full(outer, content, inner):
    """True if the content has as many numbers as the shape has boxes."""
    return sum(content) == sum(outer) - sum(inner)


def _layers(outer, content, inner):
    """For each number of the content, the shapes that its boxes complete.

    A list of pairs of the number and a dict from each shape to the list of
    the shapes before it.
    """
    steps = [(k + 1, many) for k, many in enumerate(content) if many > 0]
    shapes = [_starts(inner, len(outer))]
    layers = []
    for done, (number, many) in enumerate(steps):
        before = {}
        for shape in shapes:
            for larger in _strips_up(outer, shape, many, len(steps) - done - 1):
                before.setdefault(larger, []).append(shape)
        layers.append((number, before))
        shapes = list(before)
    return layers


def _begun(rows, number, larger, smaller):
    """The ends of rows with the boxes between two shapes put before them."""
    return tuple([(number,) * (x - y) + row for row, x, y in zip(rows, larger, smaller)])


def fillings(outer, content, inner=()):
    """All fillings of the shape that have the content, in ascending order."""
    if not _is_full(outer, content, inner):
        return ()
    # From the greatest number back: each shape in the layers is reached
    # from the inner one, so that no filling is begun in vain.
    found = [(outer, ((),) * len(outer))]
    for number, before in _layers(outer, content, inner)[::-1]:
        found = [
            (smaller, _begun(rows, number, larger, smaller))
            for larger, rows in found
            for smaller in before.get(larger, [])
        ]
    return tuple(sorted([rows for _, rows in found]))


def count_fillings(outer, content, inner=()):
    """The number of the fillings of the shape that have the content."""
    if not _is_full(outer, content, inner):
        return 0
    # The order of the content does not change the number; with the greatest
    # item first there are the fewest shapes on the way.
    steps = sorted([many for many in content if many > 0], reverse=True)
    counts = {_starts(inner, len(outer)): 1}
    for done, many in enumerate(steps):
        after = {}
        for shape in counts:
            for larger in _strips_up(outer, shape, many, len(steps) - done - 1):
                after[larger] = after.get(larger, 0) + counts[shape]
        counts = after
    return counts.get(outer, 0)


def _rising_rows(least, most):
    """The rows that do not descend with each number within its limits, ascending."""
    found = [()]
    for low, high in zip(least, most):
        found = [
            row + (x,)
            for row in found
            for x in range(max(row[-1:] + (low,)), high + 1)
        ]
    return found


def _greatest_numbers(outer, starts, most, i):
    """The greatest number for each box of a row that leaves room below it."""
    below = outer[i + 1:]
    return [most - len([part for part in below if part > j]) for j in range(starts[i], outer[i])]


def _too_tall(outer, starts, most):
    """True if a column of the shape has more than `most` boxes."""
    for i in range(len(outer)):
        greatest = _greatest_numbers(outer, starts, most, i)
        above = [len([start for start in starts[:i] if start <= j]) for j in range(starts[i], outer[i])]
        if any([x >= y for x, y in zip(above, greatest)]):
            return True
    return False


def _least_below(above, shift, many):
    """The least number for each of so many boxes below a row that begins `shift` columns behind."""
    free = min(shift, many)
    return [1] * free + [x + 1 for x in above[:many - free]]


def fillings_to(outer, most, inner=()):
    """All fillings of the shape with numbers from 1 to `most`, in ascending order."""
    starts = _starts(inner, len(outer))
    # If no column is too tall, each choice of a number within its limits
    # can be completed; so all fillings come in their order.
    if _too_tall(outer, starts, most):
        return ()
    found = [()]
    for i in range(len(outer)):
        greatest = _greatest_numbers(outer, starts, most, i)
        shift = starts[i - 1] - starts[i] if i > 0 else len(greatest)
        found = [
            rows + (row,)
            for rows in found
            for row in _rising_rows(_least_below(rows[-1] if rows else (), shift, len(greatest)), greatest)
        ]
    return tuple(found)


def content_of(rows):
    """How often each number from 1 on occurs, up to the greatest one."""
    counts = {}
    for x in word_of(rows):
        counts[x] = counts.get(x, 0) + 1
    return tuple([counts.get(x, 0) for x in range(1, max(list(counts), default=0) + 1)])


def word_of(rows):
    """The numbers of the rows from the last one to the first one."""
    return tuple([x for row in rows[::-1] for x in row])


def _number_at(rows, starts, i, j):
    """The number in a box, None if there is no such box."""
    if i < 0 or i >= len(rows) or j < starts[i] or j - starts[i] >= len(rows[i]):
        return None
    return rows[i][j - starts[i]]


def _is_free(rows, starts, k, i, j):
    """True if a `k` or `k + 1` stands in the box and is not bound."""
    x = _number_at(rows, starts, i, j)
    if x == k:
        return _number_at(rows, starts, i + 1, j) != k + 1
    return x == k + 1 and _number_at(rows, starts, i - 1, j) != k


def exchanged(rows, inner, k):
    """The filling with `k` and `k + 1` exchanged."""
    starts = _starts(inner, len(rows))
    found = []
    for i, row in enumerate(rows):
        free = [at for at in range(len(row)) if _is_free(rows, starts, k, i, starts[i] + at)]
        greater = len([at for at in free if row[at] == k + 1])
        items = list(row)
        for at, x in zip(free, [k] * greater + [k + 1] * (len(free) - greater)):
            items[at] = x
        found.append(tuple(items))
    return tuple(found)
