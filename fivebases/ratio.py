"""Rational numbers of any size, and their written form."""

from math import gcd

from fivebases.errors import NoText, ZeroDivisor

# Python prints and reads only some thousands of digits at once, so that
# numbers are brought to digits and back in pieces of this many digits.
_WIDTH = 64
_PIECE = 10 ** 64


def is_integer(value):
    """True if `value` is an integer and not True or False."""
    return isinstance(value, int) and not isinstance(value, bool)


def digits_of(n):
    """The decimal digits of an integer from 0 on, of any size."""
    powers = [_PIECE]
    while powers[-1] <= n:
        powers.append(powers[-1] * powers[-1])
    return _padded_digits(n, powers, len(powers) - 1).lstrip("0") or "0"


def _padded_digits(n, powers, level):
    """The digits of an `n` below `powers[level]`, with leading zeros."""
    if level == 0:
        return str(n).zfill(_WIDTH)
    high, low = divmod(n, powers[level - 1])
    return _padded_digits(high, powers, level - 1) + _padded_digits(low, powers, level - 1)


def is_digits(text):
    """True if a string has digits from 0 to 9 alone, at least one."""
    return text.isascii() and text.isdigit()


def number_of(digits):
    """The integer with these decimal digits, of any number."""
    padded = digits.zfill((len(digits) + _WIDTH - 1) // _WIDTH * _WIDTH)
    values = [int(padded[k:k + _WIDTH]) for k in range(0, len(padded), _WIDTH)]
    base = _PIECE
    while len(values) > 1:
        if len(values) % 2 == 1:
            values = [0] + values
        values = [values[k] * base + values[k + 1] for k in range(0, len(values), 2)]
        base = base * base
    return values[0]


def _integer_power(n, k):
    """The power of an integer by an exponent from 0 on."""
    result = 1
    for bit in f"{k:b}":
        result = result * result
        if bit == "1":
            result = result * n
    return result


class Ratio:
    """The rational number `n / d` in lowest terms, `d` above 0."""

    def __init__(self, n, d=1):
        if d == 0:
            raise ZeroDivisor("the denominator is zero")
        shared = gcd(n, d) if d > 0 else -gcd(n, d)
        self.n = n // shared
        self.d = d // shared

    def __add__(self, other):
        return Ratio(self.n * other.d + other.n * self.d, self.d * other.d)

    def __sub__(self, other):
        return Ratio(self.n * other.d - other.n * self.d, self.d * other.d)

    def __mul__(self, other):
        return Ratio(self.n * other.n, self.d * other.d)

    def __neg__(self):
        return Ratio(-self.n, self.d)

    def __eq__(self, other):
        return isinstance(other, Ratio) and self.n == other.n and self.d == other.d

    def __str__(self):
        sign = "-" if self.n < 0 else ""
        below = "" if self.d == 1 else f"/{digits_of(self.d)}"
        return f"{sign}{digits_of(abs(self.n))}{below}"

    def inverse(self):
        """1 divided by the number."""
        return Ratio(self.d, self.n)

    def over(self, b):
        """The number divided by `b`."""
        return Ratio(self.n * b.d, self.d * b.n)

    def power(self, k):
        """The power by any integer."""
        if k < 0:
            return self.inverse().power(-k)
        return Ratio(_integer_power(self.n, k), _integer_power(self.d, k))

    def compare(self, b):
        """-1, 0 or 1 if the number is less than, equal to or greater than `b`."""
        return (self - b).sign()

    def sign(self):
        """-1, 0 or 1 for a negative number, zero and a positive number."""
        if self.n == 0:
            return 0
        return 1 if self.n > 0 else -1

    def floor(self):
        """The greatest integer that is not greater than the number."""
        return self.n // self.d

    @property
    def whole(self):
        """True if the number is an integer."""
        return self.d == 1

    def is_zero(self):
        """True for zero."""
        return self.n == 0


def zero():
    """The number 0."""
    return Ratio(0)


def one():
    """The number 1."""
    return Ratio(1)


def total(numbers):
    """The sum of a list or tuple of numbers."""
    result = zero()
    for number in numbers:
        result = result + number
    return result


def read_ratio(text):
    """The number whose written form is `text`."""
    if not isinstance(text, str):
        raise NoText(0)
    above, slash, below = text.removeprefix("-").partition("/")
    if not is_digits(above) or (slash == "/" and not is_digits(below)):
        raise NoText(0)
    n = number_of(above)
    d = number_of(below) if slash == "/" else 1
    if d == 0:
        raise NoText(0)
    result = Ratio(-n if text.startswith("-") else n, d)
    # Leading zeros, -0 and fractions not in lowest terms are written otherwise.
    if str(result) != text:
        raise NoText(0)
    return result
