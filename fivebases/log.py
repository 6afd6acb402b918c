"""Logs: entries as a text, the text read back, and the first entry that is wrong."""

from fivebases.errors import Malformed, NoText
from fivebases.replies import judged, with_definition
from fivebases.sheet import is_name


def _is_row(value):
    return isinstance(value, str) and "\n" not in value


def _is_pair(value):
    return isinstance(value, tuple) and len(value) == 2


def _check_entry(entry):
    """Refuses what cannot be written in two lines."""
    if not _is_pair(entry) or not _is_row(entry[0]) or not _is_pair(entry[1]):
        raise Malformed("this is no pair of a line and a reply")
    kind, text = entry[1]
    if not is_name(kind) or not _is_row(text):
        raise Malformed("this is no reply")


def write_log(entries):
    """The written form of a list of entries."""
    if not isinstance(entries, (list, tuple)):
        raise Malformed("these are no entries")
    rows = []
    for entry in entries:
        _check_entry(entry)
        line, (kind, text) = entry
        rows.append(f"> {line}\n= {kind} {text}\n")
    return "".join(rows)


def _read_reply(row, k):
    """The reply in the row of the number `k`."""
    kind, space, text = row.removeprefix("= ").partition(" ")
    if not row.startswith("= ") or space == "" or not is_name(kind):
        raise NoText(k)
    return (kind, text)


def read_log(text):
    """The list of the entries with this written form."""
    if not isinstance(text, str):
        raise NoText(0)
    rows = text.split("\n")
    rest = rows.pop()
    entries = []
    line = ""
    for k, row in enumerate(rows):
        if k % 2 == 1:
            entries.append((line, _read_reply(row, k)))
        elif row.startswith("> "):
            line = row.removeprefix("> ")
        else:
            raise NoText(k)
    if rest != "" or len(rows) % 2 == 1:
        raise NoText(len(rows))
    return entries


def first_wrong(entries):
    """The index of the first item that is no right entry, or -1, beginning without definitions."""
    names = {}
    for k, entry in enumerate(entries):
        right, f = judged(names, entry)
        if not right:
            return k
        names = with_definition(names, entry[0], f)
    return -1
