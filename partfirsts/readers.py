"""Readers: how the rows of a table that lies in parts are read, page by page."""

from partfirsts.errors import InvalidAsk, InvalidMark, InvalidNumber, InvalidOrder, InvalidState
from partfirsts.tables import Table, check_parts
from partfirsts.words import is_number

_MOST_SIZE = 9


def _is_ask(value):
    return is_number(value, 1, Reader.MOST_ASK)


def _are_asks(value):
    return (
        isinstance(value, tuple)
        and 1 <= len(value) <= Table.MOST_PARTS
        and all([_is_ask(ask) for ask in value])
    )


def _is_following(value, many):
    return value is None or is_number(value, 0, many - 1)


def is_state(value, many):
    """Whether any value is a state of a reader with so many states."""
    if not isinstance(value, tuple) or len(value) != 4:
        return False
    size, asks, full, thin = value
    return (
        is_number(size, 1, _MOST_SIZE)
        and _are_asks(asks)
        and _is_following(full, many)
        and _is_following(thin, many)
    )


def check_size(size):
    """InvalidNumber for any value but a size of a page."""
    if not is_number(size, 1, _MOST_SIZE):
        raise InvalidNumber(size)


def check_orders(inner, order):
    """InvalidOrder for any values but an inner and a middle order."""
    if inner not in Reader.INNER:
        raise InvalidOrder(inner)
    if order not in Reader.ORDERS:
        raise InvalidOrder(order)


def _check_states(states):
    if len(states) == 0:
        raise InvalidState(0)
    for at, state in enumerate(states):
        if (
            at == Reader.MOST_STATES
            or not is_state(state, len(states))
            or len(state[1]) != len(states[0][1])
        ):
            raise InvalidState(at)


class Reader:
    """A mark, an inner and a middle order, and states (size, asks, full, thin); it never changes."""

    MARKS = ("key", "from", "row", "each", "count", "rest")
    INNER = ("up", "down")
    ORDERS = ("number", "back", "part")
    MOST_STATES = 6
    MOST_ASK = 9

    def __init__(self, mark, states, *, inner="up", order="number"):
        if mark not in Reader.MARKS:
            raise InvalidMark(mark)
        check_orders(inner, order)
        _check_states(states)
        self._mark = mark
        self._inner = inner
        self._order = order
        self._states = tuple(states)

    @staticmethod
    def exact(parts, size):
        """The reader by rows that asks each part for a whole page, and so makes no fault."""
        check_parts(parts)
        check_size(size)
        return Reader("row", [(size, (size,) * parts, 0, None)])

    @property
    def mark(self):
        """The rule by which a part leaves out rows."""
        return self._mark

    @property
    def inner(self):
        """The order in which a part sends its rows."""
        return self._inner

    @property
    def order(self):
        """The order in which the rows at hand are told."""
        return self._order

    @property
    def parts(self):
        """The number of parts."""
        return len(self._states[0][1])

    def states(self):
        """The states (size, asks, full, thin)."""
        return list(self._states)

    def with_asks(self, *asks):
        """The reader whose states all have these asks."""
        for ask in asks:
            if not _is_ask(ask):
                raise InvalidAsk(ask)
        if len(asks) != self.parts:
            raise InvalidAsk(None)
        states = [(size, asks, full, thin) for size, _, full, thin in self._states]
        return Reader(self._mark, states, inner=self._inner, order=self._order)

    def __len__(self):
        return len(self._states)

    def __eq__(self, other):
        return (
            isinstance(other, Reader)
            and self._mark == other._mark
            and self._inner == other._inner
            and self._order == other._order
            and self._states == other._states
        )

    def __repr__(self):
        return f"Reader({self._mark}, {len(self._states)} states)"
