"""Shelves: they keep readers and tables by names, with undo and kept answers."""

from partfirsts.errors import DuplicateName, Full, InvalidCommand, InvalidLimit, InvalidName, NothingLeft, UnknownName
from partfirsts.notation import read_reader, read_table
from partfirsts.readers import Reader
from partfirsts.tables import Table
from partfirsts.verdicts import is_right
from partfirsts.words import is_name, is_number

# How many items a command has, by its first one.
_LENGTHS = {"reader": 3, "table": 3, "put": 3, "drop": 2, "deal": 4}


def _is_command(value):
    if not isinstance(value, tuple) or len(value) == 0 or not isinstance(value[0], str):
        return False
    return value[0] in _LENGTHS and _LENGTHS[value[0]] == len(value)


def _entry_of(entries, name):
    if not is_name(name) or name not in entries:
        raise UnknownName(name)
    return entries[name]


def _reader_of(entries, name):
    entry = _entry_of(entries, name)
    if not isinstance(entry, Reader):
        raise UnknownName(name)
    return entry


def _table_of(entries, name):
    entry = _entry_of(entries, name)
    if not isinstance(entry, Table):
        raise UnknownName(name)
    return entry


def _check_free(entries, limit, name):
    if not is_name(name):
        raise InvalidName(name)
    if name in entries:
        raise DuplicateName(name)
    if len(entries) >= limit:
        raise Full(limit)


def _put(entries, name, text):
    if isinstance(_entry_of(entries, name), Reader):
        entries[name] = read_reader(text)
    else:
        entries[name] = read_table(text)


def _do(entries, limit, command):
    """Does a command on these entries."""
    word, name, *values = command
    if word == "reader":
        _check_free(entries, limit, name)
        entries[name] = read_reader(values[0])
    elif word == "table":
        _check_free(entries, limit, name)
        entries[name] = read_table(values[0])
    elif word == "put":
        _put(entries, name, values[0])
    elif word == "drop":
        _entry_of(entries, name)
        del entries[name]
    else:
        number, part = values
        entries[name] = _table_of(entries, name).moved(number, part)


class Shelf:
    """Readers and tables by names; each call of apply is a step that can be taken back."""

    MOST = 20

    def __init__(self, *, limit=8):
        # No dict of entries is ever changed, so the steps and twins may share them.
        self._entries = {}
        self._past = []
        self._future = []
        self._kept = {}
        self._computed = 0
        self._busy = False
        self._check_limit(limit)
        self._limit = limit

    @property
    def limit(self):
        """How many entries there may be."""
        return self._limit

    @limit.setter
    def limit(self, value):
        self._check_limit(value)
        self._limit = value

    def set_limit(self, value):
        """From now on there may be so many entries."""
        self.limit = value

    @property
    def busy(self):
        """Whether commands are being done."""
        return self._busy

    @property
    def computed(self):
        """How many answers were computed."""
        return self._computed

    def apply(self, *commands):
        """Does the commands as one step, or none of them if one raises an error."""
        for at, command in enumerate(commands):
            if not _is_command(command):
                raise InvalidCommand(at)
        entries = dict(self._entries)
        self._busy = True
        try:
            for command in commands:
                _do(entries, self._limit, command)
        finally:
            self._busy = False
        self._past.append(self._entries)
        self._future = []
        self._take(entries)

    def undo(self):
        """Takes the last step back."""
        if len(self._past) == 0:
            raise NothingLeft()
        self._future.append(self._entries)
        self._take(self._past.pop())

    def redo(self):
        """Makes the step again that was taken back last."""
        if len(self._future) == 0:
            raise NothingLeft()
        self._past.append(self._entries)
        self._take(self._future.pop())

    def history(self):
        """How many steps can be undone, and how many can be redone."""
        return (len(self._past), len(self._future))

    def names(self):
        """The names, ascending."""
        return sorted(self._entries)

    def reader_of(self, name):
        """The reader with this name."""
        return _reader_of(self._entries, name)

    def table_of(self, name):
        """The table with this name."""
        return _table_of(self._entries, name)

    def word(self, name):
        """The kept answer: whether the reader with this name is `right` or `wrong`."""
        reader = self.reader_of(name)
        if name not in self._kept:
            self._kept[name] = "right" if is_right(reader) else "wrong"
            self._computed += 1
        return self._kept[name]

    def kept(self):
        """The names of the readers whose answers are kept, ascending."""
        return sorted(self._kept)

    def twin(self):
        """An independent shelf with the same entries, limit, steps, kept answers and count."""
        other = Shelf(limit=self._limit)
        other._entries = self._entries
        other._past = list(self._past)
        other._future = list(self._future)
        other._kept = dict(self._kept)
        other._computed = self._computed
        return other

    def _check_limit(self, value):
        if not is_number(value, max(1, len(self._entries)), Shelf.MOST):
            raise InvalidLimit(value)

    def _take(self, entries):
        """Has these entries from now on; answers stay only for readers that are as they were."""
        kept = {}
        for name, word in self._kept.items():
            if name in entries and entries[name] == self._entries[name]:
                kept[name] = word
        self._kept = kept
        self._entries = entries

    def __contains__(self, name):
        return is_name(name) and name in self._entries

    def __len__(self):
        return len(self._entries)

    def __bool__(self):
        return True

    def __eq__(self, other):
        return isinstance(other, Shelf) and self._entries == other._entries

    def __repr__(self):
        return f"Shelf({len(self._entries)} entries)"
