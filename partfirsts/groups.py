"""Groups that lie in parts: the first ones by their totals, and those that are told."""

from partfirsts.errors import InvalidAsk, InvalidGroup, InvalidWay
from partfirsts.readers import Reader, check_size
from partfirsts.tables import check_parts
from partfirsts.words import is_name, is_number, is_whole

WAYS = ("least", "greatest", "sum")


def _is_pair(value):
    return isinstance(value, tuple) and len(value) == 2 and is_whole(value[0]) and is_name(value[1])


def _are_groups(value):
    return (
        isinstance(value, (list, tuple))
        and all([_is_pair(pair) for pair in value])
        and len({pair[1]: True for pair in value}) == len(value)
    )


def _check_groups(parts):
    for at, part in enumerate(parts):
        if not _are_groups(part):
            raise InvalidGroup(at)


def _check_ask(ask):
    if not is_number(ask, 1, Reader.MOST_ASK):
        raise InvalidAsk(ask)


def _check_way(way):
    if way not in WAYS:
        raise InvalidWay(way)


def _joined(one, other, way):
    if way == "least":
        return min(one, other)
    if way == "greatest":
        return max(one, other)
    return one + other


def _first_totals(parts, size, way):
    totals = {}
    for part in parts:
        for value, name in part:
            totals[name] = _joined(totals[name], value, way) if name in totals else value
    return sorted([(total, name) for name, total in totals.items()])[:size]


def true_first(parts, size, way):
    """The first pairs (total, name), as many as the size says."""
    _check_groups(parts)
    check_size(size)
    _check_way(way)
    return _first_totals(parts, size, way)


def told_first(parts, ask, size, way):
    """The same of what is sent, where each part sends its first pairs, as many as the ask says."""
    _check_groups(parts)
    _check_ask(ask)
    check_size(size)
    _check_way(way)
    return _first_totals([sorted(part)[:ask] for part in parts], size, way)


def group_parts(many, ask, size, way):
    """None if what is told is always true in so many parts, otherwise parts for which it is not."""
    check_parts(many)
    _check_ask(ask)
    check_size(size)
    _check_way(way)
    if ask < size:
        return [_named(size)] + [[] for _ in range(many - 1)]
    if many == 1 or way == "least":
        return None
    # The last part does not send its value of this name, which makes its total greater than all others.
    name = "z"
    return [[(0, name)]] + [[] for _ in range(many - 2)] + [_named(ask) + [(ask + 1, name)]]


def _named(many):
    """So many pairs of values from 1 on with names of their own, of at most nine."""
    return list(enumerate("abcdefghi"[:many], start=1))
