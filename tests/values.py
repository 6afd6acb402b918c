"""Values of all kinds, for the points that say "for every value"."""

from fivebases.errors import Malformed, NoText
from fivebases.letters import Letters
from fivebases.ratio import Ratio
from fivebases.symmetric import Symmetric


def values_of_all_kinds():
    return [
        0, 1, -1, 2, 7, 13, 10 ** 30, -10 ** 30, 10 ** 6000,
        True, False, None,
        "", "0", "1", "-1", "1/2", "3.2.2", "x1", "a", "\n", "\u0661", "\u00b2", "m", "me", "m[1]",
        [], [1], [2, 1], [[]], [()], [None], [[[]], ((),)],
        (), (1,), (2, 1), (0,), (1, 2), (-1,), (True,), (1, False), (None,), ("1",), ((),), ((1,),), ([1],),
        (1, (1,)), (2, "1"), (2, None), (2, [1]), ((0,), 1), ((0,), True), ((1, 1), (2,)), ((2, 1), (3,)),
        Ratio(0), Ratio(1), Ratio(1, 2), (Ratio(1),), [Ratio(1)], (Ratio(2), 1),
        Letters(0, []), Letters(1, [((1,), 1)]), (Letters(0, []),),
        Symmetric("m", []), Symmetric("p", [((2, 1), 3)]), (Symmetric("e", []),),
        Malformed("no"), NoText(3),
    ]


def same(a, b):
    """True if two values are equal and of the same kinds throughout."""
    if type(a) is not type(b):
        return False
    if isinstance(a, (list, tuple)):
        return len(a) == len(b) and all(same(x, y) for x, y in zip(a, b))
    return a == b
