"""Polynomials in up to eight letters with rational coefficients."""

from math import lcm

from fivebases.errors import Malformed, Refused
from fivebases.partition import shares
from fivebases.ratio import Ratio, digits_of, is_integer, one, total, zero
from fivebases.terms import added_up, checked_pairs, signed_words, unsigned

_MOST_LETTERS = 8


def check_number(n):
    """Refuses what cannot be a number of letters."""
    if not is_integer(n):
        raise Malformed("the number of letters is no integer")
    if n > _MOST_LETTERS:
        raise Refused("letters")
    if n < 0:
        raise Malformed("the number of letters is negative")


def _is_exponent(value, n):
    """True if `value` is an exponent of `n` letters, for every value."""
    if not isinstance(value, tuple) or len(value) != n:
        return False
    return all([is_integer(item) and item >= 0 for item in value])


def _check_same_number(a, b):
    if a.n != b.n:
        raise Malformed("the numbers of letters differ")


def _swapped(exponent, i, j):
    """The exponent with the items at two indexes exchanged."""
    items = list(exponent)
    items[i] = exponent[j]
    items[j] = exponent[i]
    return tuple(items)


def _greatest_item(terms):
    return max([item for exponent, _ in terms for item in exponent], default=0)


def _packed(exponent, base):
    """The exponent as one integer, its items as digits to this base."""
    number = 0
    for item in exponent:
        number = number * base + item
    return number


def _unpacked(number, base, n):
    """The exponent of `n` letters that was packed."""
    items = []
    for _ in range(n):
        number, item = divmod(number, base)
        items.append(item)
    return tuple(items[::-1])


def _common_denominator(terms):
    common = 1
    for _, coefficient in terms:
        common = lcm(common, coefficient.d)
    return common


def _packed_terms(terms, base, denominator):
    """Pairs of a packed exponent and the numerator over this denominator."""
    return [
        (_packed(exponent, base), coefficient.n * (denominator // coefficient.d))
        for exponent, coefficient in terms
    ]


def _product_terms(n, left, right):
    """The terms of a product, each exponent once.

    A product of thousands of terms by hundreds is common. So the terms are
    multiplied as integers, and the exponents added as integers, too; the
    base is greater than any item of a sum, so that no item runs over.
    """
    base = _greatest_item(left) + _greatest_item(right) + 1
    first_denominator = _common_denominator(left)
    second_denominator = _common_denominator(right)
    second = _packed_terms(right, base, second_denominator)
    sums = {}
    for exponent, number in _packed_terms(left, base, first_denominator):
        for more, factor in second:
            key = exponent + more
            sums[key] = sums.get(key, 0) + number * factor
    denominator = first_denominator * second_denominator
    return [(_unpacked(key, base, n), Ratio(number, denominator)) for key, number in sums.items()]


def _letter_text(i, exponent):
    """The text of a power of the letter of the number `i`."""
    return f"x{i}" if exponent == 1 else f"x{i}^{digits_of(exponent)}"


def _term_text(exponent, coefficient):
    """The text of a term without its sign."""
    words = [_letter_text(k + 1, item) for k, item in enumerate(exponent) if item > 0]
    number = unsigned(coefficient)
    if words and number == one():
        return "*".join(words)
    return "*".join([str(number)] + words)


class Letters:
    """A polynomial in `n` letters; its terms descend by their exponents."""

    def __init__(self, n, pairs):
        check_number(n)
        checked = checked_pairs(pairs)
        if not all([_is_exponent(exponent, n) for exponent, _ in checked]):
            raise Malformed("an exponent has not one integer from 0 on for each letter")
        sums = added_up(checked)
        self.n = n
        self.terms = tuple([(exponent, sums[exponent]) for exponent in sorted(list(sums), reverse=True)])
        self._coefficients = sums

    def __add__(self, other):
        _check_same_number(self, other)
        return Letters(self.n, self.terms + other.terms)

    def __sub__(self, other):
        return self + (-other)

    def __mul__(self, other):
        _check_same_number(self, other)
        return Letters(self.n, _product_terms(self.n, self.terms, other.terms))

    def __neg__(self):
        return Letters(self.n, [(exponent, -coefficient) for exponent, coefficient in self.terms])

    def __eq__(self, other):
        return isinstance(other, Letters) and self.n == other.n and self.terms == other.terms

    def __str__(self):
        terms = [(coefficient, _term_text(exponent, coefficient)) for exponent, coefficient in self.terms]
        return "".join(signed_words(terms))

    def degree(self):
        """The greatest degree of a term, -1 for zero."""
        return max([sum(exponent) for exponent, _ in self.terms], default=-1)

    def is_zero(self):
        """True for the polynomial without terms."""
        return len(self.terms) == 0

    def coefficient(self, exponent):
        """The coefficient at a tuple, 0 if it does not occur."""
        if not _is_exponent(exponent, self.n):
            return zero()
        return self._coefficients.get(exponent, zero())

    def scaled(self, q):
        """The polynomial times a `Ratio`."""
        return Letters(self.n, [(exponent, coefficient * q) for exponent, coefficient in self.terms])

    def power(self, k):
        """The power by an integer from 0 on."""
        result = of_ratio(self.n, one())
        for bit in f"{k:b}":
            result = result * result
            if bit == "1":
                result = result * self
        return result

    def part(self, d):
        """The terms of the degree `d` alone."""
        return Letters(self.n, [term for term in self.terms if sum(term[0]) == d])

    def value(self, point):
        """The value at a tuple of one `Ratio` for each letter."""
        worths = []
        for exponent, coefficient in self.terms:
            worth = coefficient
            for number, item in zip(point, exponent):
                if item > 0:
                    worth = worth * number.power(item)
            worths.append(worth)
        return total(worths)

    def exchanged(self, i, j):
        """The polynomial with the letters of the numbers `i` and `j` exchanged."""
        return Letters(self.n, [
            (_swapped(exponent, i - 1, j - 1), coefficient) for exponent, coefficient in self.terms
        ])

    def raised(self, k):
        """The polynomial with each letter replaced by its power by `k`."""
        return Letters(self.n, [
            (tuple([item * k for item in exponent]), coefficient) for exponent, coefficient in self.terms
        ])

    def first(self, k):
        """The polynomial in the first `k` letters, the others set to 0."""
        return Letters(k, [
            (exponent[:k], coefficient) for exponent, coefficient in self.terms if sum(exponent[k:]) == 0
        ])

    def is_symmetric(self):
        """True if exchanging any two letters leaves the polynomial as it is."""
        for exponent, coefficient in self.terms:
            for k in range(self.n - 1):
                if self._coefficients.get(_swapped(exponent, k, k + 1)) != coefficient:
                    return False
        return True


def letter(n, i):
    """The letter of the number `i` as a polynomial in `n` letters."""
    check_number(n)
    if not is_integer(i) or i < 1 or i > n:
        raise Malformed("there is no letter of this number")
    return Letters(n, [(tuple([int(k == i) for k in range(1, n + 1)]), 1)])


def of_ratio(n, q):
    """The constant polynomial of a `Ratio` in `n` letters."""
    check_number(n)
    return Letters(n, [((0,) * n, q)])


def monomials(n, d):
    """All exponents of the degree `d` in `n` letters, descending."""
    check_number(n)
    return tuple(shares([d] * n, d))
