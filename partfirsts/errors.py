"""The errors of the package: each class keeps its own name as `code`."""


def copied(value):
    """The value, with new lists in the place of its lists, however deep they lie."""
    if isinstance(value, list):
        return [copied(item) for item in value]
    if isinstance(value, tuple):
        return tuple([copied(item) for item in value])
    return value


class PartError(ValueError):
    """The base class of the errors about values that do not fit."""


class Missing(LookupError):
    """The base class of the errors about what is looked up and not there."""


class InvalidRow(PartError):
    """The item with the index `at` is no row."""

    def __init__(self, at):
        self.code = "InvalidRow"
        self.at = copied(at)


class InvalidPart(PartError):
    """What was given is no part, or no number of parts."""

    def __init__(self, given):
        self.code = "InvalidPart"
        self.given = copied(given)


class InvalidMark(PartError):
    """What was given is no mark."""

    def __init__(self, given):
        self.code = "InvalidMark"
        self.given = copied(given)


class InvalidOrder(PartError):
    """What was given is no inner order, or no middle order."""

    def __init__(self, given):
        self.code = "InvalidOrder"
        self.given = copied(given)


class InvalidState(PartError):
    """The item with the index `at` is no state."""

    def __init__(self, at):
        self.code = "InvalidState"
        self.at = copied(at)


class InvalidAsk(PartError):
    """What was given is no ask."""

    def __init__(self, given):
        self.code = "InvalidAsk"
        self.given = copied(given)


class InvalidNumber(PartError):
    """What was given is no number within the bounds."""

    def __init__(self, given):
        self.code = "InvalidNumber"
        self.given = copied(given)


class InvalidStanding(PartError):
    """What was given is no standing of the reader."""

    def __init__(self, given):
        self.code = "InvalidStanding"
        self.given = copied(given)


class InvalidKind(PartError):
    """What was given is no kind of fault."""

    def __init__(self, given):
        self.code = "InvalidKind"
        self.given = copied(given)


class InvalidGroup(PartError):
    """The item with the index `at` is no part of groups."""

    def __init__(self, at):
        self.code = "InvalidGroup"
        self.at = copied(at)


class InvalidWay(PartError):
    """What was given is no way of making a total."""

    def __init__(self, given):
        self.code = "InvalidWay"
        self.given = copied(given)


class InvalidName(PartError):
    """What was given is no name."""

    def __init__(self, given):
        self.code = "InvalidName"
        self.given = copied(given)


class InvalidText(PartError):
    """The line with the index `line` does not fit in the text."""

    def __init__(self, line):
        self.code = "InvalidText"
        self.line = copied(line)


class InvalidCommand(PartError):
    """The item with the index `at` is no command."""

    def __init__(self, at):
        self.code = "InvalidCommand"
        self.at = copied(at)


class InvalidLimit(PartError):
    """What was given is no limit of the shelf."""

    def __init__(self, given):
        self.code = "InvalidLimit"
        self.given = copied(given)


class DuplicateNumber(PartError):
    """Two rows have this number."""

    def __init__(self, number):
        self.code = "DuplicateNumber"
        self.number = copied(number)


class DuplicateName(PartError):
    """Something has this name already."""

    def __init__(self, name):
        self.code = "DuplicateName"
        self.name = copied(name)


class TooMany(PartError):
    """There are more rows than the most that a table has."""

    def __init__(self, most):
        self.code = "TooMany"
        self.most = copied(most)


class PartsDiffer(PartError):
    """Two things that belong together have unlike numbers of parts."""

    def __init__(self):
        self.code = "PartsDiffer"


class WrongReader(PartError):
    """The reader is not right; `first` is the first kind of fault that is possible."""

    def __init__(self, first):
        self.code = "WrongReader"
        self.first = copied(first)


class Ended(PartError):
    """The run is over."""

    def __init__(self):
        self.code = "Ended"


class Full(PartError):
    """There are as many entries as the limit lets."""

    def __init__(self, limit):
        self.code = "Full"
        self.limit = copied(limit)


class UnknownName(Missing):
    """Nothing of the kind that is sought has this name."""

    def __init__(self, name):
        self.code = "UnknownName"
        self.name = copied(name)


class UnknownNumber(Missing):
    """No row has this number."""

    def __init__(self, number):
        self.code = "UnknownNumber"
        self.number = copied(number)


class NothingLeft(IndexError):
    """Nothing is left to take back, or to make again."""

    def __init__(self):
        self.code = "NothingLeft"
