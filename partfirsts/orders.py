"""The orders of places: that in which a part sends them, and that in which they are told."""


def inner_sorted(places, inner):
    """The places in the inner order."""
    if inner == "down":
        return sorted(places, key=lambda place: (place[0], -place[1]))
    return sorted(places)


def are_alike(inner, order):
    """Whether rows are told in the order in which a part sends them, whatever parts they lie in."""
    return (inner, order) in (("up", "number"), ("down", "back"))


def _rank(place, sender, order):
    key, number = place
    if order == "back":
        return (key, -number)
    if order == "part":
        return (key, sender, number)
    return (key, number)


def middle_sorted(senders, order):
    """The places, each with the least part that sent it, in the middle order."""
    ranked = sorted([(_rank(place, sender, order), place) for place, sender in senders.items()])
    return [place for _, place in ranked]
