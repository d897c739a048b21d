"""Faults: which kinds of them a reader can make on plain tables, and a table for each."""

from partfirsts.errors import InvalidKind
from partfirsts.standings import kinds_at, origins
from partfirsts.tables import Table

KINDS = ("late", "left", "lost", "twice")


def _check_kind(kind):
    if kind not in KINDS:
        raise InvalidKind(kind)


def possible(reader, kind):
    """Whether this kind of fault can be the first one of a run on a plain table."""
    _check_kind(kind)
    return len(_way_to(reader, kind)) > 0


def possible_kinds(reader):
    """The kinds of faults that can be the first one of a run on a plain table, in the order of KINDS."""
    found = {kind: True for standing in origins(reader) for kind in kinds_at(reader, standing)}
    return [kind for kind in KINDS if kind in found]


def fault_table(reader, kind):
    """A plain table on which the run of the reader has this fault, or None."""
    _check_kind(kind)
    way = _way_to(reader, kind)
    if len(way) == 0:
        return None
    return _table_behind(reader, kind, way)


def _way_to(reader, kind):
    """A shortest way of standings to one at which this kind of fault can come; empty if there is none."""
    ahead = origins(reader)
    for standing in ahead:
        if kind in kinds_at(reader, standing):
            way = [standing]
            while ahead[way[-1]] is not None:
                way.append(ahead[way[-1]])
            return way[::-1]
    return []


def _table_behind(reader, kind, way):
    """The table whose rows lead along the way without a fault, and then to a fault of this kind."""
    # The parts of rows that each have a key of their own, so that no tie makes a fault among them.
    told = []
    for at, following in enumerate(way[1:]):
        state = reader.states()[way[at][0]]
        told.extend(_spread(_live_asks(state[1], following[1]), state[0]))
    last = reader.states()[way[-1][0]]
    rows = list(enumerate(told))
    for key, part in _rows_for(reader, kind, last, _live_asks(last[1], way[-1][1])):
        rows.append((len(told) + key, part))
    return Table(reader.parts, [(key, number, (part,)) for number, (key, part) in enumerate(rows)])


def _live_asks(asks, live):
    return {part: asks[part] for part in live}


def _spread(asks, many):
    """The parts of so many rows that the parts send at once, or of as many as they send."""
    parts = []
    for part, ask in asks.items():
        parts.extend([part] * ask)
    return parts[:many]


def _rows_for(reader, kind, state, asks):
    """The pairs (key, part) of rows on which a run in this state has this fault next."""
    if kind == "late":
        return _held_back_rows(asks, min(list(asks.values())) + 1, 1, 2)
    if kind == "left":
        return _left_rows(state, asks)
    if kind == "lost":
        return _lost_rows(reader, state, asks)
    return _twice_rows(reader, state, asks)


def _left_rows(state, asks):
    if state[2] is None:
        return _held_back_rows(asks, state[0], 1, 0)
    return _held_back_rows(asks, 0, 1, 0)


def _lost_rows(reader, state, asks):
    size = state[0]
    # Where a page cannot be full, the parts do not send so many rows, and the page is thin.
    full = state[2] is not None
    least = min(list(asks.values()))
    if reader.mark == "key" or (reader.mark != "count" and reader.inner == "down"):
        return _held_back_rows(asks, size if full else 0, 0, 0)
    if reader.mark == "row" and len(asks) >= 2:
        if least < size:
            return _held_back_rows(asks, size if full else least + 1, 1, 1)
        high, low = list(asks)[:2]
        return _tied_rows(asks, size + 1, low, high)
    widest = max(list(asks), key=lambda part: asks[part])
    return _tied_rows(asks, size + 1, widest, widest)


def _twice_rows(reader, state, asks):
    size = state[0]
    full = state[2] is not None
    if reader.mark == "from":
        return [(0, part) for part in _spread(asks, size if full else 1)]
    parts = list(asks)
    return _tied_rows(asks, size if full else 2, parts[-1], parts[0])


def _held_back_rows(asks, many, held_key, other_key):
    """Rows of which the part with the least ask holds one back, and `many` are sent, if the parts send so many."""
    held = min(list(asks), key=lambda part: asks[part])
    others = {part: ask for part, ask in asks.items() if part != held}
    fill = _spread(others, max(0, many - asks[held]))
    # The row that is held back comes first here, so that its number is the least.
    return [(held_key, held)] + [(0, held)] * asks[held] + [(other_key, part) for part in fill]


def _tied_rows(asks, many, low, high):
    """As many rows, if the parts send so many; the last two have one key, and lie in these parts by their numbers."""
    rest = {part: ask - [low, high].count(part) for part, ask in asks.items()}
    return [(0, part) for part in _spread(rest, many - 2)] + [(1, low), (1, high)]
