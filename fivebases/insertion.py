"""Insertion: words and matrices as pairs of fillings of one partition.

While numbers are put in and taken out, a filling is a list of lists.
"""

from fivebases.errors import Malformed, Refused
from fivebases.fillings import is_filling
from fivebases.partition import is_partition
from fivebases.ratio import is_integer


def _lists(rows):
    return [list(row) for row in rows]


def _tuples(rows):
    return tuple([tuple(row) for row in rows])


def _first_greater(row, x):
    """The index of the first number greater than `x`, the length if there is none."""
    low, high = 0, len(row)
    while low < high:
        middle = (low + high) // 2
        if row[middle] > x:
            high = middle
        else:
            low = middle + 1
    return low


def _put_in(rows, x):
    """Inserts `x` into the lists; returns the index of the row with the new box."""
    i = 0
    while i < len(rows):
        row = rows[i]
        at = _first_greater(row, x)
        if at == len(row):
            row.append(x)
            return i
        x, row[at] = row[at], x
        i = i + 1
    rows.append([x])
    return i


def _take_out(rows, i):
    """Takes the last box of a row away; returns the number that leaves the first row."""
    x = rows[i].pop()
    if not rows[i]:
        rows.pop()
    for k in range(i - 1, -1, -1):
        row = rows[k]
        # The last number less than x stands before the first one that is not.
        at = _first_greater(row, x - 1) - 1
        x, row[at] = row[at], x
    return x


def inserted(rows, x):
    """The filling after inserting `x`, and the index of the row with the new box."""
    lists = _lists(rows)
    i = _put_in(lists, x)
    return _tuples(lists), i


def taken(rows, i):
    """The filling without the last box of the row `i`, and the number that leaves it."""
    if not is_integer(i) or i < 0 or i >= len(rows):
        raise Refused("corner")
    if i + 1 < len(rows) and len(rows[i + 1]) == len(rows[i]):
        raise Refused("corner")
    lists = _lists(rows)
    x = _take_out(lists, i)
    return _tuples(lists), x


def _pair_of_columns(columns):
    """The pair of fillings of columns of pairs."""
    p, q = [], []
    for first, second in columns:
        i = _put_in(p, second)
        if i == len(q):
            q.append([])
        q[i].append(first)
    return _tuples(p), _tuples(q)


def _columns_of_pair(p, q):
    """The columns of pairs, as a list, that a pair of fillings comes from."""
    numbers, marks = _lists(p), _lists(q)
    columns = []
    while marks:
        # Of equal numbers at the ends of rows that of the longest row, the
        # first one, stands furthest to the right.
        ends = [row[-1] for row in marks]
        i = ends.index(max(ends))
        first = marks[i].pop()
        if not marks[i]:
            marks.pop()
        columns.append((first, _take_out(numbers, i)))
    return columns[::-1]


def _check_pair(p, q):
    """Refuses what are no two fillings of one partition."""
    if not isinstance(p, tuple) or not all([isinstance(row, tuple) for row in p]):
        raise Malformed("the first filling is no tuple of tuples")
    shape = tuple([len(row) for row in p])
    if not is_partition(shape) or not is_filling(p, shape) or not is_filling(q, shape):
        raise Malformed("these are no fillings of one partition")


def _numbers(rows):
    return [x for row in rows for x in row]


def pair_of_word(word):
    """The pair of fillings of a word."""
    return _pair_of_columns([(k + 1, x) for k, x in enumerate(word)])


def word_of_pair(p, q):
    """The word that the pair comes from."""
    _check_pair(p, q)
    steps = sorted(_numbers(q))
    if steps != list(range(1, len(steps) + 1)):
        raise Malformed("the second filling has not each number once")
    return tuple([x for _, x in _columns_of_pair(p, q)])


def pair_of_matrix(matrix):
    """The pair of fillings of a matrix."""
    return _pair_of_columns([
        (i + 1, j + 1)
        for i, row in enumerate(matrix)
        for j, many in enumerate(row)
        for _ in range(many)
    ])


def matrix_of_pair(p, q, height, width):
    """The matrix of this height and width that the pair comes from."""
    _check_pair(p, q)
    if max(_numbers(q), default=0) > height or max(_numbers(p), default=0) > width:
        raise Refused("small")
    rows = [[0] * width for _ in range(height)]
    for first, second in _columns_of_pair(p, q):
        row = rows[first - 1]
        row[second - 1] = row[second - 1] + 1
    return _tuples(rows)


def longest_rising(word):
    """The length of the longest selection of the word that does not descend."""
    row = []
    for x in word:
        at = _first_greater(row, x)
        if at == len(row):
            row.append(x)
        else:
            row[at] = x
    return len(row)
