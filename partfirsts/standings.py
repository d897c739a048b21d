"""Standings: what matters of a run for its rest, the steps between standings, and the faults that can come."""

from partfirsts.errors import InvalidStanding
from partfirsts.words import is_number


def _are_live(value, parts):
    return (
        isinstance(value, tuple)
        and all([is_number(part, 0, parts - 1) for part in value])
        and list(value) == sorted(set(value))
    )


def is_standing(reader, value):
    """Whether any value is a standing of the reader, be it that steps lead to it or not."""
    return (
        isinstance(value, tuple)
        and len(value) == 2
        and is_number(value[0], 0, len(reader) - 1)
        and _are_live(value[1], reader.parts)
    )


def _check_standing(reader, value):
    if not is_standing(reader, value):
        raise InvalidStanding(value)


def _subsets(parts):
    found = [()]
    for part in parts:
        found = found + [some + (part,) for some in found]
    return found


def _asked(asks, parts):
    return sum([asks[part] for part in parts])


def first_standing(reader):
    """The standing ahead of the first page."""
    return (0, tuple(range(reader.parts)))


def steps(reader, standing):
    """The standings to which one step leads, ascending."""
    _check_standing(reader, standing)
    state, live = standing
    if reader.mark == "from" or len(live) == 0:
        return []
    size, asks, full, thin = reader.states()[state]
    found = {}
    if full is not None and _asked(asks, live) >= size:
        found[(full, live)] = True
    if thin is not None and size >= 2:
        for some in _subsets(live):
            if _asked(asks, some) < size:
                found[(thin, some)] = True
    return sorted(found)


def origins(reader):
    """Each standing that steps lead to, with the one ahead of it on a shortest way, the first one with None."""
    first = first_standing(reader)
    found = {first: None}
    waiting = [first]
    while len(waiting) > 0:
        standing = waiting.pop(0)
        for following in steps(reader, standing):
            if following not in found:
                found[following] = standing
                waiting.append(following)
    return found


def standings(reader):
    """All standings that steps lead to from the first one, with it, ascending."""
    for standing in sorted(origins(reader)):
        yield standing


def _can_be_late(size, asks):
    return len(asks) >= 2 and min(asks) < size


def _can_be_left(state, asks):
    size, _, full, thin = state
    return (full is None and sum(asks) >= size) or (thin is None and min(asks) < size)


def _sends_against_telling(reader):
    """Whether the told rows of a part may not be its first ones, so that the mark leaves out others."""
    if reader.inner == "up":
        return reader.order == "back" and reader.mark in ("each", "count")
    return reader.order != "back" and reader.mark == "count"


def _lost_behind_full(reader, size, asks):
    """Whether a row can be lost behind a full page that goes on, where asks are those of the live parts."""
    if sum(asks) < size:
        return False
    if reader.mark == "key" or (reader.mark in ("row", "each") and reader.inner == "down"):
        return True
    if reader.mark == "row":
        crossed = len(asks) >= 2 and (reader.order != "number" or min(asks) < size)
        return crossed or (reader.order == "back" and sum(asks) > size)
    return _sends_against_telling(reader) and sum(asks) > size and max(asks) >= 2


def _lost_behind_thin(reader, size, asks):
    """Whether a row can be lost behind a thin page that goes on, where asks are those of the live parts."""
    if reader.mark == "key" or (reader.mark in ("row", "each") and reader.inner == "down"):
        return min(asks) < size
    return reader.mark == "row" and len(asks) >= 2 and min(asks) < size - 1


def _twice_behind_full(reader, size, asks):
    """Whether a row can be told twice behind a full page that goes on, where asks are those of the live parts."""
    if sum(asks) < size:
        return False
    if reader.mark == "row" and size >= 2:
        return reader.order == "back" or (reader.order == "part" and len(asks) >= 2)
    return reader.mark == "from"


def _twice_behind_thin(reader, size, asks):
    """Whether a row can be told twice behind a thin page that goes on, where asks are those of the live parts."""
    if reader.mark == "row" and size >= 3:
        return (reader.order == "part" and len(asks) >= 2) or (reader.order == "back" and sum(asks) >= 2)
    return reader.mark == "from" and size >= 2


def kinds_at(reader, standing):
    """The kinds of faults that can come next at a standing, in the order late, left, lost, twice."""
    _check_standing(reader, standing)
    if len(standing[1]) == 0:
        return []
    state = reader.states()[standing[0]]
    size, _, full, thin = state
    asks = [state[1][part] for part in standing[1]]
    found = []
    if _can_be_late(size, asks):
        found.append("late")
    if _can_be_left(state, asks):
        found.append("left")
    if (full is not None and _lost_behind_full(reader, size, asks)) or (
        thin is not None and _lost_behind_thin(reader, size, asks)
    ):
        found.append("lost")
    if (full is not None and _twice_behind_full(reader, size, asks)) or (
        thin is not None and _twice_behind_thin(reader, size, asks)
    ):
        found.append("twice")
    return found
