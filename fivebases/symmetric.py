"""Symmetric functions of degrees to 8 in the bases m, e, h, p and s."""

from fivebases.counting import monomial_multiples
from fivebases.errors import Malformed, NoText, Refused
from fivebases.letters import Letters, check_number, monomials
from fivebases.partition import is_partition
from fivebases.ratio import Ratio, digits_of, is_digits, is_integer, number_of, read_ratio, zero
from fivebases.terms import added_up, checked_pairs, signed_words, unsigned

BASES = ("m", "e", "h", "p", "s")
MOST_DEGREE = 8


def is_base(value):
    """True if `value` is the letter of a base, for every value."""
    return isinstance(value, str) and value in BASES


def _check_part(part):
    """Refuses what is no partition of at most 8."""
    if not is_partition(part):
        raise Malformed("this is no partition")
    if sum(part) > MOST_DEGREE:
        raise Refused("degree")


def _check_index(k, least):
    """Refuses what is no integer from `least` to 8."""
    if not is_integer(k) or k < least:
        raise Malformed("this is no number of a function")
    if k > MOST_DEGREE:
        raise Refused("degree")


def _orders(items):
    """The unlike orders of the items of a descending tuple."""
    if not items:
        return [()]
    return [
        (item,) + order
        for k, item in enumerate(items)
        if k == 0 or items[k - 1] != item
        for order in _orders(items[:k] + items[k + 1:])
    ]


def _exponents(n, part):
    """The exponents of `n` letters that consist of the parts and zeros."""
    if len(part) > n:
        return []
    return _orders(part + (0,) * (n - len(part)))


def monomial_sum(n, part):
    """The polynomial m of a partition in `n` letters."""
    _check_part(part)
    check_number(n)
    return Letters(n, [(exponent, 1) for exponent in _exponents(n, part)])


def elementary(n, k):
    """The sum of all products of `k` unlike letters of `n`."""
    _check_index(k, 0)
    return monomial_sum(n, (1,) * k)


def complete(n, k):
    """The sum of all monomials of the degree `k` in `n` letters."""
    _check_index(k, 0)
    return Letters(n, [(exponent, 1) for exponent in monomials(n, k)])


def power_sum(n, k):
    """The sum of the powers of `n` letters by `k` from 1 on."""
    _check_index(k, 1)
    return monomial_sum(n, (k,))


def schur(n, part):
    """The polynomial s of a partition in `n` letters."""
    _check_part(part)
    return one("s", part).polynomial(n)


def _term_text(base, part, multiple):
    """The text of a term without its sign."""
    parts = ",".join([digits_of(number) for number in part])
    number = unsigned(multiple)
    front = "" if number == Ratio(1) else f"{number}*"
    return f"{front}{base}[{parts}]"


class Symmetric:
    """A symmetric function: a sum of multiples of the functions of a base."""

    def __init__(self, base, pairs):
        if not is_base(base):
            raise Malformed("this is no letter of a base")
        checked = checked_pairs(pairs)
        if not all([is_partition(part) for part, _ in checked]):
            raise Malformed("a term has no partition")
        if any([sum(part) > MOST_DEGREE for part, _ in checked]):
            raise Refused("degree")
        multiples = added_up(checked)
        # Sorting by the degree keeps the order of the partitions of one degree.
        parts = sorted(sorted(list(multiples), reverse=True), key=sum)
        self.base = base
        self.terms = tuple([(part, multiples[part]) for part in parts])
        self._multiples = multiples

    def __add__(self, other):
        if self.base == other.base:
            return Symmetric(self.base, self.terms + other.terms)
        return Symmetric("m", self.meaning().terms + other.meaning().terms)

    def __sub__(self, other):
        return self + (-other)

    def __neg__(self):
        return Symmetric(self.base, [(part, -multiple) for part, multiple in self.terms])

    def __eq__(self, other):
        if not isinstance(other, Symmetric):
            return False
        # In one base there is only one function with a given meaning.
        if self.base == other.base:
            return self.terms == other.terms
        return self.meaning().terms == other.meaning().terms

    def __str__(self):
        terms = [(multiple, _term_text(self.base, part, multiple)) for part, multiple in self.terms]
        return "".join(signed_words(terms))

    def scaled(self, q):
        """The function times a `Ratio`."""
        return Symmetric(self.base, [(part, multiple * q) for part, multiple in self.terms])

    def multiple(self, part):
        """The multiple of a partition in the function's base, 0 if it does not occur."""
        if not is_partition(part):
            return zero()
        return self._multiples.get(part, zero())

    def degree(self):
        """The greatest degree of a term, -1 without terms."""
        return max([sum(part) for part, _ in self.terms], default=-1)

    def is_zero(self):
        """True for the function without terms."""
        return len(self.terms) == 0

    def part_of(self, d):
        """The terms of the degree `d` alone."""
        return Symmetric(self.base, [term for term in self.terms if sum(term[0]) == d])

    def polynomial(self, n):
        """The polynomial of the function in `n` letters."""
        check_number(n)
        return Letters(n, [
            (exponent, multiple)
            for part, multiple in self.meaning().terms
            for exponent in _exponents(n, part)
        ])

    def meaning(self):
        """The function of the base m with the same polynomials."""
        pairs = []
        for part, multiple in self.terms:
            numbers = monomial_multiples(self.base, part)
            pairs.extend([(other, multiple * Ratio(numbers[other])) for other in numbers])
        return Symmetric("m", pairs)


def of_polynomial(a):
    """The function of the base m that has the polynomial `a`."""
    if not a.is_symmetric():
        raise Refused("symmetric")
    if a.degree() > a.n:
        raise Refused("letters")
    pairs = []
    for exponent, coefficient in a.terms:
        part = tuple([item for item in exponent if item > 0])
        # Of the orders of an exponent the one that is the partition counts.
        if is_partition(part) and exponent[:len(part)] == part:
            pairs.append((part, coefficient))
    return Symmetric("m", pairs)


def one(base, part):
    """The function of a base with the multiple 1 of one partition."""
    return Symmetric(base, [(part, 1)])


def _read_part(text):
    """The partition of at most 8 with these parts between commas."""
    words = text.split(",") if text else []
    if not all([is_digits(word) for word in words]):
        raise NoText(0)
    part = tuple([number_of(word) for word in words])
    if not is_partition(part) or sum(part) > MOST_DEGREE:
        raise NoText(0)
    return part


def _read_term(word):
    """The letter of the base, the partition and the multiple of a term."""
    front, star, back = word.rpartition("*")
    letter, bracket, inside = back.partition("[")
    if not is_base(letter) or bracket == "" or not inside.endswith("]"):
        raise NoText(0)
    multiple = read_ratio(front) if star == "*" else Ratio(1)
    return letter, _read_part(inside.removesuffix("]")), multiple


def read_symmetric(text):
    """The function with this text."""
    if not isinstance(text, str):
        raise NoText(0)
    if text == "0":
        return Symmetric("m", [])
    words = text.removeprefix("-").split(" ")
    terms = [_read_term(word) for word in words[::2]]
    signs = ["-" if text.startswith("-") else "+"] + words[1::2]
    base, _, _ = terms[0]
    result = Symmetric(base, [
        (part, -multiple if sign == "-" else multiple)
        for (_, part, multiple), sign in zip(terms, signs)
    ])
    # Several bases, other orders, signs and spaces, and multiples 0 and 1 are written otherwise.
    if str(result) != text:
        raise NoText(0)
    return result
