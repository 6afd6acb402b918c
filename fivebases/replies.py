"""Replies to lines, and whether they are right."""

from fivebases.checker import takes_expansion
from fivebases.errors import Malformed, NoText, Refused
from fivebases.fillings import count_fillings
from fivebases.insertion import pair_of_word
from fivebases.putting import put
from fivebases.ratio import digits_of
from fivebases.sheet import read_line
from fivebases.structure import in_base, inner, product, skewed, turned_function
from fivebases.symmetric import read_symmetric


def _function_of(names, name):
    """The function that a name stands for."""
    if name not in names:
        raise Refused("name")
    return names[name]


def _combined(word, f, g):
    """What a line with this word makes of two functions."""
    if word == "plus":
        return f + g
    if word == "minus":
        return f - g
    if word == "times":
        return product(f, g)
    if word == "skew":
        return skewed(f, g)
    return put(f, g)


def _defined(names, command):
    """The function that the command defines, None if it defines none."""
    word = command[0]
    if word == "let":
        return command[2]
    if word == "scale":
        return _function_of(names, command[3]).scaled(command[2])
    if word == "turn":
        return turned_function(_function_of(names, command[2]))
    if word in ("plus", "minus", "times", "skew", "put"):
        return _combined(word, _function_of(names, command[2]), _function_of(names, command[3]))
    return None


def _filling_text(rows):
    return "/".join([".".join([digits_of(x) for x in row]) for row in rows])


def _answer(names, command):
    """The reply to a command that defines nothing."""
    word = command[0]
    if word == "empty":
        return ("done", "")
    if word == "count":
        return ("number", digits_of(count_fillings(command[1], command[2])))
    if word == "insert":
        p, q = pair_of_word(command[1])
        return ("pair", f"{_filling_text(p)} | {_filling_text(q)}")
    f = _function_of(names, command[1])
    if word == "change":
        return ("function", str(in_base(f, command[2])))
    g = _function_of(names, command[2])
    if word == "equal":
        return ("equal", "yes" if f == g else "no")
    return ("number", str(inner(f, g)))


def reply_to(names, line):
    """The reply to a line, and the function that the line defines, or None."""
    try:
        command = read_line(line)
        f = _defined(names, command)
        if f is None:
            return _answer(names, command), None
        return ("function", str(f)), f
    except NoText:
        return ("error", "text"), None
    except Malformed:
        return ("error", "malformed"), None
    except Refused as e:
        return ("error", f"refused {e.reason}"), None


def with_definition(names, line, f):
    """The definitions behind a line that defines the function, or None; a new dict."""
    after = {name: names[name] for name in names}
    if f is not None:
        after[read_line(line)[1]] = f
    return after


def _changed_name(names, line):
    """The defined name and the letter of a `change` line, None for other lines."""
    try:
        command = read_line(line)
    except NoText:
        return None
    if command[0] != "change" or command[1] not in names:
        return None
    return command[1:]


def _is_right_change(f, base, reply):
    """True if the checker takes the reply for the function brought to the base."""
    if not isinstance(reply, tuple) or len(reply) != 2 or reply[0] != "function":
        return False
    try:
        g = read_symmetric(reply[1])
    except NoText:
        return False
    if g.base != base and not g.is_zero():
        return False
    return takes_expansion(f, ("expansion", base, g.terms))


def judged(names, entry):
    """Whether the entry is right over the definitions, and the function that its line defines, or None."""
    if not isinstance(entry, tuple) or len(entry) != 2:
        return False, None
    line, reply = entry
    change = _changed_name(names, line)
    if change is not None:
        name, base = change
        return _is_right_change(names[name], base, reply), None
    expected, f = reply_to(names, line)
    return reply == expected, f


def is_right(names, entry):
    """True if the entry is right over the definitions."""
    right, _ = judged(names, entry)
    return right
