"""Papers of changes, expansions and products, which the checker accepts."""

from fivebases.changes import change
from fivebases.errors import Malformed, Refused
from fivebases.ratio import is_integer
from fivebases.structure import in_base, product
from fivebases.symmetric import MOST_DEGREE, Symmetric, is_base


def _check_letter(base):
    if not is_base(base):
        raise Malformed("this is no letter of a base")


def change_paper(n, one, two):
    """The paper of the change from a base to another one in the degree `n`."""
    if not is_integer(n) or n < 0 or n > MOST_DEGREE:
        raise Refused("degree")
    _check_letter(one)
    _check_letter(two)
    return ("change", n, one, two, change(n, one, two))


def expansion_paper(f, base):
    """The paper of a function brought to a base."""
    _check_letter(base)
    return ("expansion", base, in_base(f, base).terms)


def product_paper(base, one, two):
    """The paper of the product of two functions of a base."""
    if sum(one) + sum(two) > MOST_DEGREE:
        raise Refused("degree")
    _check_letter(base)
    f = product(Symmetric(base, [(one, 1)]), Symmetric(base, [(two, 1)]))
    return ("product", base, one, two, f.terms)
