"""Desks: they answer lines about a shelf."""

from partfirsts.asking import least_asks
from partfirsts.errors import Missing, NothingLeft, PartError
from partfirsts.faults import possible_kinds
from partfirsts.notation import number_of
from partfirsts.runs import judge
from partfirsts.words import is_number

# The greatest number of at most 9 digits.
_MOST_NUMBER = 999999999


def _listed(words):
    return " ".join(words) if len(words) > 0 else "none"


def _drop(shelf, name):
    shelf.apply(("drop", name))
    return "done"


def _deal(shelf, name, number, part):
    shelf.apply(("deal", name, number, part))
    return "done"


def _undo(shelf):
    shelf.undo()
    return "done"


def _redo(shelf):
    shelf.redo()
    return "done"


def _names(shelf):
    return _listed(shelf.names())


def _word(shelf, name):
    return shelf.word(name)


def _kinds(shelf, name):
    return _listed(possible_kinds(shelf.reader_of(name)))


def _play(shelf, name, other):
    reader = shelf.reader_of(name)
    kind, number, _ = judge(reader, shelf.table_of(other))
    return kind if number is None else f"{kind} {number}"


def _needs(shelf, name, most):
    found = least_asks(shelf.reader_of(name), most=most)
    return _listed([",".join([str(ask) for ask in asks]) for asks in found])


_ACTIONS = {
    "drop": _drop,
    "deal": _deal,
    "undo": _undo,
    "redo": _redo,
    "names": _names,
    "word": _word,
    "kinds": _kinds,
    "play": _play,
    "needs": _needs,
}
# What the words behind the first one are: names, and numbers where it says so.
_FORMS = {
    "drop": ("name",),
    "deal": ("name", "number", "number"),
    "undo": (),
    "redo": (),
    "names": (),
    "word": ("name",),
    "kinds": ("name",),
    "play": ("name", "name"),
    "needs": ("name", "number"),
}


def _values_of(words):
    """The values behind the first word, or None if the words are no line of [20]."""
    if "" in words or words[0] not in _FORMS:
        return None
    form = _FORMS[words[0]]
    if len(form) != len(words) - 1:
        return None
    values = [number_of(word) if kind == "number" else word for kind, word in zip(form, words[1:])]
    numbers = [value for kind, value in zip(form, values) if kind == "number"]
    return values if all([is_number(number, 0, _MOST_NUMBER) for number in numbers]) else None


class Desk:
    """Answers lines about this very shelf."""

    def __init__(self, shelf):
        self._shelf = shelf
        self._log = []

    @property
    def shelf(self):
        """The shelf."""
        return self._shelf

    def say(self, line):
        """The answer to a line."""
        answer = self._answer(line)
        self._log.append((line, answer))
        return answer

    def __call__(self, line):
        return self.say(line)

    def log(self):
        """The pairs (line, answer), in the order in which the lines came."""
        return list(self._log)

    def _answer(self, line):
        words = line.split(" ")
        values = _values_of(words)
        if values is None:
            return "unknown"
        action = _ACTIONS[words[0]]
        try:
            return action(self._shelf, *values)
        except (PartError, Missing, NothingLeft) as error:
            return f"error {error.code}"

    def __len__(self):
        return len(self._log)

    def __bool__(self):
        return True

    def __repr__(self):
        return f"Desk({len(self._log)} lines)"
