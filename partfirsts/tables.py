"""Tables of rows that lie in parts."""

from partfirsts.errors import DuplicateNumber, InvalidPart, InvalidRow, PartsDiffer, TooMany, UnknownNumber
from partfirsts.words import is_number

_MOST_KEY = 1000000000
_MOST_NUMBER = 1000000000


def check_parts(parts):
    """InvalidPart for any value but a number of parts that a table can have."""
    if not is_number(parts, 1, Table.MOST_PARTS):
        raise InvalidPart(parts)


def check_part(part, parts):
    """InvalidPart for any value but a part of a table with so many parts."""
    if not is_number(part, 0, parts - 1):
        raise InvalidPart(part)


def _are_parts(value, parts):
    if not isinstance(value, tuple) or len(value) == 0:
        return False
    least = 0
    for part in value:
        if not is_number(part, least, parts - 1):
            return False
        least = part + 1
    return True


def is_row(value, parts):
    """Whether any value is a row of a table with so many parts."""
    if not isinstance(value, tuple) or len(value) != 3:
        return False
    key, number, lies = value
    return (
        is_number(key, -_MOST_KEY, _MOST_KEY)
        and is_number(number, 0, _MOST_NUMBER)
        and _are_parts(lies, parts)
    )


def _row_in(place, part):
    # What is no pair becomes no row, so that the constructor finds it in its turn.
    if not isinstance(place, tuple) or len(place) != 2:
        return None
    return (place[0], place[1], (part,))


def _rows_by_number(rows):
    found = {}
    for row in rows:
        if row[1] in found:
            raise DuplicateNumber(row[1])
        found[row[1]] = row
    return found


class Table:
    """A number of parts, and rows (key, number, parts); it never changes."""

    MOST_PARTS = 4
    MOST_ROWS = 300

    def __init__(self, parts, rows):
        check_parts(parts)
        for at, row in enumerate(rows):
            if not is_row(row, parts):
                raise InvalidRow(at)
        by_number = _rows_by_number(rows)
        if len(rows) > Table.MOST_ROWS:
            raise TooMany(Table.MOST_ROWS)
        self._parts = parts
        # Numbers differ, so the order of the rows is that of their places.
        self._rows = sorted(rows)
        self._by_number = by_number

    @staticmethod
    def dealt(parts, places):
        """The table in which the place with the index i lies in the part i modulo parts."""
        check_parts(parts)
        return Table(parts, [_row_in(place, at % parts) for at, place in enumerate(places)])

    @staticmethod
    def alone(parts, places, *, part=0):
        """The table in which all places lie in one part."""
        check_parts(parts)
        check_part(part, parts)
        return Table(parts, [_row_in(place, part) for place in places])

    @property
    def parts(self):
        """The number of parts."""
        return self._parts

    @property
    def plain(self):
        """Whether each row lies in one part."""
        return all([len(row[2]) == 1 for row in self._rows])

    def rows(self):
        """The rows, ascending by place."""
        return list(self._rows)

    def places(self):
        """The places of all rows, ascending."""
        return [(row[0], row[1]) for row in self._rows]

    def part(self, index):
        """The places of the rows that lie in this part, ascending."""
        check_part(index, self._parts)
        return [(row[0], row[1]) for row in self._rows if index in row[2]]

    def place_of(self, number):
        """The place of the row with this number."""
        row = self._row_of(number)
        return (row[0], row[1])

    def parts_of(self, number):
        """The tuple of the parts in which the row with this number lies."""
        return self._row_of(number)[2]

    def moved(self, number, *parts):
        """The table in which the row with this number lies in these parts."""
        row = self._row_of(number)
        if len(parts) == 0:
            raise InvalidPart(None)
        for at, part in enumerate(parts):
            check_part(part, self._parts)
            if part in parts[:at]:
                raise InvalidPart(part)
        others = [other for other in self._rows if other[1] != row[1]]
        return Table(self._parts, others + [(row[0], row[1], tuple(sorted(parts)))])

    def with_row(self, row):
        """The table with one more row."""
        if not is_row(row, self._parts):
            raise InvalidRow(0)
        return Table(self._parts, self._rows + [row])

    def without(self, *numbers):
        """The table without the rows with these numbers."""
        gone = {}
        for number in numbers:
            # A value that is in the table is a number, so it can be a key.
            if number not in self or number in gone:
                raise UnknownNumber(number)
            gone[number] = True
        return Table(self._parts, [row for row in self._rows if row[1] not in gone])

    def _row_of(self, number):
        if number not in self:
            raise UnknownNumber(number)
        return self._by_number[number]

    def __or__(self, other):
        if not isinstance(other, Table):
            return NotImplemented
        if self._parts != other._parts:
            raise PartsDiffer()
        # The rows of the other table stand behind, so the double that is found is its first one.
        return Table(self._parts, self._rows + other._rows)

    def __contains__(self, number):
        return is_number(number, 0, _MOST_NUMBER) and number in self._by_number

    def __len__(self):
        return len(self._rows)

    def __bool__(self):
        return True

    def __eq__(self, other):
        return isinstance(other, Table) and self._parts == other._parts and self._rows == other._rows

    def __repr__(self):
        return f"Table({self._parts} parts, {len(self._rows)} rows)"
