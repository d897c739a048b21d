"""Asking: the least asks that make a reader right, and whether what it tells depends on how the rows are dealt."""

from partfirsts.errors import InvalidNumber, WrongReader
from partfirsts.faults import possible_kinds
from partfirsts.orders import are_alike
from partfirsts.tables import Table
from partfirsts.verdicts import is_right
from partfirsts.words import is_number

_MOST_ASK = 6


def _all_asks(parts, most):
    """All tuples of asks up to the greatest one, ascending."""
    found = [()]
    for _ in range(parts):
        found = [asks + (ask,) for asks in found for ask in range(1, most + 1)]
    return found


def _is_nowhere_greater(one, other):
    return all([ask <= most for ask, most in zip(one, other)])


def least_asks(reader, *, most=4):
    """The tuples of asks with which the reader is right, and wrong with each other one that is nowhere greater."""
    if not is_number(most, 1, _MOST_ASK):
        raise InvalidNumber(most)
    found = []
    # A tuple comes behind those that are nowhere greater, so a least one is found ahead of all above it.
    for asks in _all_asks(reader.parts, most):
        above = any([_is_nowhere_greater(least, asks) for least in found])
        if not above and is_right(reader.with_asks(*asks)):
            found.append(asks)
    return found


def sways(reader):
    """None, or two plain tables with the same places on which the reader tells the rows in unlike orders."""
    kinds = possible_kinds(reader)
    if len(kinds) > 0:
        raise WrongReader(kinds[0])
    if reader.parts == 1 or are_alike(reader.inner, reader.order):
        return None
    ask = reader.states()[0][1][0]
    # The row that the part 0 would send first lies in the other part once, and so the part 0 sends its last one, too.
    apart = 0 if reader.inner == "up" else ask
    return (_tied_table(reader, ask + 1, None), _tied_table(reader, ask + 1, apart))


def _tied_table(reader, many, apart):
    """So many rows of one key, which lie in the part 0, but the one with the number `apart` in the part 1."""
    rows = [(0, number, (1,) if number == apart else (0,)) for number in range(many)]
    return Table(reader.parts, rows)
