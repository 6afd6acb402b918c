"""Pairs of a key and a number: what polynomials and symmetric functions are made of."""

from fivebases.errors import Malformed
from fivebases.ratio import Ratio, is_integer


def _checked_number(value):
    """A `Ratio` or an integer, as a `Ratio`."""
    if isinstance(value, Ratio):
        return value
    if not is_integer(value):
        raise Malformed("the number of a term is none")
    return Ratio(value)


def checked_pairs(pairs):
    """The list of the pairs of a list or tuple, each number as a `Ratio`."""
    if not isinstance(pairs, (list, tuple)):
        raise Malformed("the terms are no list or tuple")
    checked = []
    for pair in pairs:
        if not isinstance(pair, tuple) or len(pair) != 2:
            raise Malformed("a term is no pair")
        key, number = pair
        checked.append((key, _checked_number(number)))
    return checked


def added_up(pairs):
    """The dict from keys to the sums of their numbers, zeros left out."""
    sums = {}
    for key, number in pairs:
        if key in sums:
            sums[key] = sums[key] + number
        else:
            sums[key] = number
    return {key: sums[key] for key in sums if not sums[key].is_zero()}


def unsigned(number):
    """The number without its sign."""
    return -number if number.sign() < 0 else number


def signed_words(terms):
    """The words of a sum of pairs of a number and a text that leaves out its sign."""
    words = []
    for number, text in terms:
        minus = number.sign() < 0
        if words:
            words.append(" - " if minus else " + ")
        elif minus:
            words.append("-")
        words.append(text)
    return words or ["0"]
