"""A console: it answers lines, and keeps their entries and definitions."""

from fivebases.errors import Refused
from fivebases.replies import reply_to, with_definition

_MOST_LINES = 500


class Console:
    """Definitions and entries, which change only by lines that are entered."""

    def __init__(self):
        self._entries = []
        self._names = {}

    def __len__(self):
        return len(self._entries)

    def enter(self, line):
        """The reply to a line, whose entry is added."""
        if len(self._entries) >= _MOST_LINES:
            raise Refused("lines")
        reply, f = reply_to(self._names, line)
        self._names = with_definition(self._names, line, f)
        self._entries.append((line, reply))
        return reply

    def entries(self):
        """A new list of the entries."""
        return list(self._entries)

    def names(self):
        """A new dict of the definitions."""
        return dict(self._names)
