"""Hands: they merge the parts of a plain table without marks."""

from partfirsts.errors import InvalidAsk, InvalidRow
from partfirsts.orders import inner_sorted, middle_sorted
from partfirsts.readers import Reader, check_orders, check_size
from partfirsts.tables import check_part
from partfirsts.words import is_number


def check_plain(table):
    """InvalidRow for the first row that lies in several parts."""
    for at, row in enumerate(table.rows()):
        if len(row[2]) > 1:
            raise InvalidRow(at)


def check_asks(asks, lengths, most):
    """InvalidAsk for any value but a tuple of numbers from 1 to `most` with one of these lengths."""
    if not isinstance(asks, tuple) or len(asks) not in lengths:
        raise InvalidAsk(None)
    for ask in asks:
        if not is_number(ask, 1, most):
            raise InvalidAsk(ask)


class Hand:
    """Keeps the rows that were sent until they are told; each part is asked for what it lacks in the hand."""

    def __init__(self, table, asks, size, *, inner="up", order="number"):
        check_plain(table)
        check_asks(asks, (table.parts,), Reader.MOST_ASK)
        check_size(size)
        check_orders(inner, order)
        self._asks = asks
        self._size = size
        self._order = order
        # For each part the places that were not sent, in the inner order.
        self._left = [inner_sorted(table.part(part), inner) for part in range(table.parts)]
        # The places in the hand, each with its part.
        self._held = {}
        self._told = []

    @property
    def size(self):
        """How many rows a page tells."""
        return self._size

    @size.setter
    def size(self, value):
        check_size(value)
        self._size = value

    def set_size(self, value):
        """From now on a page tells so many rows."""
        self.size = value

    def page(self):
        """Tells the next page: its places, none if nothing is left."""
        self._fill()
        places = middle_sorted(self._held, self._order)[:self._size]
        for place in places:
            del self._held[place]
        self._told.extend(places)
        return places

    def held(self):
        """The places in the hand, ascending."""
        return sorted(self._held)

    def left(self, part):
        """How many rows of a part were not sent."""
        check_part(part, len(self._left))
        return len(self._left[part])

    def walk(self):
        """Makes the pages that are not empty, each when it is asked for."""
        page = self.page()
        while len(page) > 0:
            yield page
            page = self.page()

    def _fill(self):
        for part, ask in enumerate(self._asks):
            lacking = ask - list(self._held.values()).count(part)
            for place in self._left[part][:lacking]:
                self._held[place] = part
            self._left[part] = self._left[part][lacking:]

    def __len__(self):
        return len(self._told)

    def __bool__(self):
        return True
