"""Lines of a worksheet, read as commands."""

from fivebases.errors import NoText
from fivebases.partition import read_partition
from fivebases.ratio import read_ratio
from fivebases.symmetric import MOST_DEGREE, is_base, read_symmetric

_MOST_CHARACTERS = 2000
_MOST_DIGITS = 20
_PERCENT_SIGN = 37

# What stands behind the first word of a line, word by word.
_FORMS = {
    "plus": ("name", "name", "name"),
    "minus": ("name", "name", "name"),
    "times": ("name", "name", "name"),
    "skew": ("name", "name", "name"),
    "put": ("name", "name", "name"),
    "scale": ("name", "ratio", "name"),
    "turn": ("name", "name"),
    "change": ("name", "letter"),
    "equal": ("name", "name"),
    "pair": ("name", "name"),
    "count": ("partition", "partition"),
    "insert": ("digits",),
}


def is_name(value):
    """True if the value is a string of 1 to 8 small letters, for every value."""
    if not isinstance(value, str) or len(value) > 8:
        return False
    return value.isascii() and value.isalpha() and value.islower()


def _is_line(value):
    if not isinstance(value, str) or len(value) > _MOST_CHARACTERS:
        return False
    return all([" " <= sign <= "~" and ord(sign) != _PERCENT_SIGN for sign in value])


def _read_name(word):
    if not is_name(word):
        raise NoText(0)
    return word


def _read_letter(word):
    if not is_base(word):
        raise NoText(0)
    return word


def _read_part(word):
    part = read_partition(word)
    if sum(part) > MOST_DEGREE:
        raise NoText(0)
    return part


def _read_digits(word):
    if len(word) > _MOST_DIGITS or not word.isdigit() or "0" in word:
        raise NoText(0)
    return tuple([int(digit) for digit in word])


def _read_word(kind, word):
    """What a word of this kind stands for."""
    if kind == "ratio":
        return read_ratio(word)
    if kind == "letter":
        return _read_letter(word)
    if kind == "partition":
        return _read_part(word)
    if kind == "digits":
        return _read_digits(word)
    return _read_name(word)


def _read_let(line):
    front, sign, text = line.partition("=")
    words = front.split()
    if sign == "" or len(words) != 2 or not is_name(words[1]):
        raise NoText(0)
    return ("let", words[1], read_symmetric(text.strip(" ")))


def read_line(line):
    """The command of a line."""
    if not _is_line(line):
        raise NoText(0)
    words = line.split()
    if not words or line.startswith("#"):
        return ("empty",)
    if words[0] == "let":
        return _read_let(line)
    form = _FORMS.get(words[0], ())
    if not form or len(words) != len(form) + 1:
        raise NoText(0)
    return (words[0],) + tuple([_read_word(kind, word) for kind, word in zip(form, words[1:])])
