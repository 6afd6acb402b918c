"""Partitions of numbers, their strips and their texts."""

from fivebases.errors import NoText, Refused
from fivebases.ratio import digits_of, is_digits, is_integer, number_of

_MOST = 12


def is_partition(value):
    """True if `value` is a partition, for every value."""
    if not isinstance(value, tuple):
        return False
    if not all([is_integer(part) and part > 0 for part in value]):
        return False
    return all([above >= below for above, below in zip(value, value[1:])])


def size(a):
    """The sum of the parts."""
    return sum(a)


def partitions(n):
    """All partitions of `n`, from 0 to 12, in their order."""
    if not is_integer(n) or n < 0 or n > _MOST:
        raise Refused("large")
    return tuple(partitions_within(n, n))


def partitions_within(n, most):
    """The list of the partitions of `n` without a part above `most`."""
    if n == 0:
        return [()]
    return [
        (part,) + rest
        for part in range(min(n, most), 0, -1)
        for rest in partitions_within(n - part, part)
    ]


def turned(a):
    """The partition that has the columns of `a` as rows."""
    columns = []
    done = 0
    for height in range(len(a), 0, -1):
        part = a[height - 1]
        columns.extend([height] * (part - done))
        done = part
    return tuple(columns)


def holds(a, b):
    """True if each box of `b` is a box of `a`."""
    return len(b) <= len(a) and all([x >= y for x, y in zip(a, b)])


def dominates(a, b):
    """True if `a` dominates `b`; False for partitions of unlike numbers."""
    if sum(a) != sum(b):
        return False
    lead = 0
    # Behind the end of the shorter one, one of the sums is the whole number;
    # whether the other one can still fail is decided before.
    for x, y in zip(a, b):
        lead = lead + x - y
        if lead < 0:
            return False
    return True


def is_level_strip(a, b):
    """True if `a` holds `b` and no two boxes of the strip are in one column."""
    if not holds(a, b) or len(b) + 1 < len(a):
        return False
    return all([below <= y for below, y in zip(a[1:], b)])


def is_upright_strip(a, b):
    """True if `a` holds `b` and no two boxes of the strip are in one row."""
    if not holds(a, b):
        return False
    padded = b + (0,) * (len(a) - len(b))
    return all([x - y <= 1 for x, y in zip(a, padded)])


def shares(limits, k):
    """The list of the tuples of numbers from 0 to these limits with the sum `k`, descending.

    Each number leaves no more than the limits behind it can take, so that
    every beginning leads to a tuple and none is made in vain.
    """
    behind = sum(limits)
    if k < 0 or k > behind:
        return []
    found = [((), k)]
    for limit in limits:
        behind = behind - limit
        found = [
            (taken + (t,), left - t)
            for taken, left in found
            for t in range(min(left, limit), max(0, left - behind) - 1, -1)
        ]
    return [taken for taken, _ in found]


def _steps(a):
    """How far each row of `a` reaches beyond the next one."""
    return [x - y for x, y in zip(a, a[1:] + (0,))]


def _runs(a):
    """The unlike parts with their numbers, as a list of pairs."""
    runs = []
    for part in a:
        if runs and runs[-1][0] == part:
            runs[-1] = (part, runs[-1][1] + 1)
        else:
            runs.append((part, 1))
    return runs


def _without_zeros(parts):
    return tuple([part for part in parts if part > 0])


def _runs_raised(runs, shared):
    """Adds a box to as many of the first rows of each run as shared tells."""
    parts = []
    for (part, many), t in zip(runs, shared):
        parts.extend([part + 1] * t + [part] * (many - t))
    return _without_zeros(parts)


def _runs_lowered(runs, shared):
    """Takes a box from as many of the last rows of each run as shared tells."""
    parts = []
    for (part, many), t in zip(runs, shared):
        parts.extend([part] * (many - t) + [part - 1] * t)
    return _without_zeros(parts)


def with_strip(b, k, *, upright=False):
    """The partitions that have a strip of `k` boxes more than `b`, in their order."""
    if upright:
        runs = _runs(b) + [(0, k)]
        limits = [many for _, many in runs]
        return tuple([_runs_raised(runs, shared) for shared in shares(limits, k)])
    rows = b + (0,)
    limits = [k] + _steps(b)
    return tuple([
        _without_zeros([part + t for part, t in zip(rows, shared)])
        for shared in shares(limits, k)
    ])


def without_strip(a, k, *, upright=False):
    """The partitions that have a strip of `k` boxes less than `a`, in their order."""
    # What is taken away further up makes the rest stand further behind.
    if upright:
        runs = _runs(a)
        limits = [many for _, many in runs]
        return tuple([_runs_lowered(runs, shared) for shared in reversed(shares(limits, k))])
    return tuple([
        _without_zeros([part - t for part, t in zip(a, shared)])
        for shared in reversed(shares(_steps(a), k))
    ])


def joined(a, b):
    """The partition of the parts of both."""
    return tuple(sorted(list(a + b), reverse=True))


def z_number(a):
    """The z number: how many permutations commute with one of these cycles."""
    result = 1
    for part, many in _runs(a):
        for k in range(1, many + 1):
            result = result * part * k
    return result


def multiplicity(a, i):
    """How often `i` is a part."""
    return a.count(i)


def partition_text(a):
    """The text of a partition."""
    if not a:
        return "0"
    return ".".join([digits_of(part) for part in a])


def read_partition(text):
    """The partition with this text."""
    if not isinstance(text, str):
        raise NoText(0)
    if text == "0":
        return ()
    words = text.split(".")
    if not all([is_digits(word) for word in words]):
        raise NoText(0)
    parts = tuple([number_of(word) for word in words])
    # Leading zeros are written otherwise.
    if not is_partition(parts) or partition_text(parts) != text:
        raise NoText(0)
    return parts
