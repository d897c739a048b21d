"""Verdicts: whether a reader is right, each with what shows it."""

from partfirsts.errors import copied
from partfirsts.faults import KINDS, fault_table, possible_kinds
from partfirsts.orders import are_alike
from partfirsts.runs import judge
from partfirsts.standings import first_standing, is_standing, kinds_at, standings, steps
from partfirsts.tables import Table
from partfirsts.words import is_number, is_whole


def _is_plainly_right(reader):
    # Most wrong readers are wrong at once, and the other standings need not be sought for them.
    return len(kinds_at(reader, first_standing(reader))) == 0 and len(possible_kinds(reader)) == 0


def _stays_right(reader, copies, moves):
    """Whether a reader that is right on plain tables is right with these, too."""
    if reader.parts == 1 or reader.mark == "row":
        return True
    if moves:
        return False
    return not copies or reader.mark not in ("each", "count") or are_alike(reader.inner, reader.order)


def _shows_right(reader, listed):
    """Whether any value is a list of standings that steps do not lead out of, and at which no fault can come."""
    if not isinstance(listed, (list, tuple)):
        return False
    if not all([is_standing(reader, item) for item in listed]):
        return False
    found = {item: True for item in listed}
    return (
        first_standing(reader) in found
        and all([following in found for item in listed for following in steps(reader, item)])
        and all([len(kinds_at(reader, item)) == 0 for item in listed])
    )


def _is_move(value, table):
    if not isinstance(value, tuple) or len(value) != 3:
        return False
    count, number, part = value
    return is_whole(count) and count >= 0 and number in table and is_number(part, 0, table.parts - 1)


def _are_moves(value, table):
    return isinstance(value, (list, tuple)) and all([_is_move(item, table) for item in value])


class Verdict:
    """What is known about a reader; it never changes."""

    def __init__(self, reader):
        self._reader = reader

    @property
    def reader(self):
        """The reader."""
        return self._reader

    def told(self):
        """What the verdict says in one word."""
        return "unknown"

    def holds(self):
        """Whether what the verdict shows is so."""
        return False

    def __bool__(self):
        return False

    def __repr__(self):
        return f"Verdict({self.told()})"


class Right(Verdict):
    """The reader is right, also with copies and with moves where these are True."""

    def __init__(self, reader, listed, *, copies=False, moves=False):
        super().__init__(reader)
        self._listed = copied(listed)
        self._copies = copied(copies)
        self._moves = copied(moves)

    @property
    def listed(self):
        """The standings in which a run can be, none of which lets a fault come."""
        return copied(self._listed)

    @property
    def copies(self):
        """Whether rows may lie in several parts."""
        return copied(self._copies)

    @property
    def moves(self):
        """Whether rows may be moved between pages."""
        return copied(self._moves)

    def told(self):
        """The word of the verdict."""
        return "right"

    def holds(self):
        """Whether the standings show that the reader is right."""
        return (
            isinstance(self._copies, bool)
            and isinstance(self._moves, bool)
            and _shows_right(self._reader, self._listed)
            and _stays_right(self._reader, self._copies, self._moves)
        )

    def __bool__(self):
        return True


class Wrong(Verdict):
    """The reader makes a fault of this kind on this table, where rows move as the moves say."""

    def __init__(self, reader, kind, table, *, moves=()):
        super().__init__(reader)
        self._kind = copied(kind)
        self._table = copied(table)
        self._moves = copied(moves)

    @property
    def kind(self):
        """The kind of the fault."""
        return copied(self._kind)

    @property
    def table(self):
        """The table."""
        return copied(self._table)

    @property
    def moves(self):
        """The moves (count, number, part)."""
        return copied(self._moves)

    def told(self):
        """The kind of the fault."""
        return copied(self._kind)

    def holds(self):
        """Whether the run on the table with these moves has a fault of this kind."""
        return (
            isinstance(self._table, Table)
            and self._table.parts == self._reader.parts
            and _are_moves(self._moves, self._table)
            and self._kind in KINDS
            and judge(self._reader, self._table, moves=self._moves)[0] == self._kind
        )


def decide(reader, *, copies=False, moves=False):
    """A Right or a Wrong that holds."""
    kinds = possible_kinds(reader)
    if len(kinds) > 0:
        return Wrong(reader, kinds[0], fault_table(reader, kinds[0]))
    if _stays_right(reader, copies, moves):
        return Right(reader, list(standings(reader)), copies=copies, moves=moves)
    if moves:
        return _wrong_with_moves(reader)
    return _wrong_with_copies(reader)


def is_right(reader, *, copies=False, moves=False):
    """Whether the reader is right, with copies and with moves where these are True."""
    return _is_plainly_right(reader) and _stays_right(reader, copies, moves)


def _wrong_with_moves(reader):
    """The fault of a right reader whose parts leave out what was told of them, and not what comes to lie in them."""
    size = reader.states()[0][0]
    # A right reader of several parts asks each of them for a whole page, so the part 0 fills the first one.
    table = Table(reader.parts, [(0, number, (0,)) for number in range(size)])
    return Wrong(reader, "twice", table, moves=[(1, 0, 1)])


def _wrong_with_copies(reader):
    """The fault of a right reader, a part of which leaves out a row for another one that was told of it, too."""
    size = reader.states()[0][0]
    rows = [(0, number, (0,)) for number in range(size - 1)]
    first, second = size - 1, size
    # The page ends with a copy that is told by the part 0, while the part 1 has the other row ahead of it.
    if reader.inner == "up":
        rows.extend([(1, first, (1,)), (1, second, (0, 1))])
    else:
        rows.extend([(1, first, (0, 1)), (1, second, (1,))])
    return Wrong(reader, "lost", Table(reader.parts, rows))
