"""Windows: they pass over the first rows of a plain table and tell the next ones, in one go."""

from partfirsts.errors import InvalidNumber
from partfirsts.hands import check_asks, check_plain
from partfirsts.tables import Table
from partfirsts.words import is_number

_MOST_ASK = 99
_MOST_NUMBER = 50


def _check_numbers(skip, size):
    for number in (skip, size):
        if not is_number(number, 0, _MOST_NUMBER):
            raise InvalidNumber(number)


def window(table, asks, skip, size):
    """The places that are told, where each part sends its first rows, as many as its ask says."""
    check_plain(table)
    check_asks(asks, (table.parts,), _MOST_ASK)
    _check_numbers(skip, size)
    sent = []
    for part, ask in enumerate(asks):
        sent.extend(table.part(part)[:ask])
    return sorted(sent)[skip:skip + size]


def window_table(asks, skip, size):
    """None if such a window is right for all plain tables, otherwise one for which it is not."""
    check_asks(asks, (1, 2, 3, 4), _MOST_ASK)
    _check_numbers(skip, size)
    needed = skip + size
    if size == 0 or min(asks) >= needed:
        return None
    # All rows lie in the part that sends too few of them.
    part = asks.index(min(asks))
    return Table(len(asks), [(0, number, (part,)) for number in range(needed)])
