import itertools

from partfirsts.readers import Reader
from partfirsts.standings import kinds_at, standings
from helper import Case
from model import INNER, MARKS, ORDERS, WAYS
from test_standings import all_standings, some_readers


def late(k, asks):
    return len(asks) > 1 and any(ask < k for ask in asks)


def left(k, asks, full, thin):
    return (full is None and sum(asks) >= k) or (thin is None and any(ask < k for ask in asks))


def lost_full(mark, inner, order, k, asks):
    """The words of [12], clause by clause."""
    many, total = len(asks), sum(asks)
    return total >= k and any([
        mark == "key",
        mark in ("row", "each") and inner == "down",
        mark == "row" and inner == "up" and many > 1 and order != "number",
        mark == "row" and inner == "up" and many > 1 and order == "number" and any(ask < k for ask in asks),
        mark == "row" and (inner, order) == ("up", "back") and total > k,
        mark in ("each", "count") and (inner, order) == ("up", "back") and total > k and any(ask > 1 for ask in asks),
        mark == "count" and (inner, order) == ("down", "number") and total > k and any(ask > 1 for ask in asks),
        mark == "count" and (inner, order) == ("down", "part") and total > k and any(ask > 1 for ask in asks),
    ])


def lost_thin(mark, inner, order, k, asks):
    return any([
        mark == "key" and any(ask < k for ask in asks),
        mark in ("row", "each") and inner == "down" and any(ask < k for ask in asks),
        mark == "row" and len(asks) > 1 and any(ask < k - 1 for ask in asks),
    ])


def twice_full(mark, inner, order, k, asks):
    return sum(asks) >= k and any([
        mark == "from",
        mark == "row" and k > 1 and order == "back",
        mark == "row" and k > 1 and order == "part" and len(asks) > 1,
    ])


def twice_thin(mark, inner, order, k, asks):
    return any([
        mark == "from" and k > 1,
        mark == "row" and k > 2 and len(asks) > 1 and order == "part",
        mark == "row" and k > 2 and order == "back" and sum(asks) > 1,
    ])


def kinds_by_the_words(reader, standing):
    k, asks, full, thin = reader.states()[standing[0]]
    asks = [asks[part] for part in standing[1]]
    if not asks:
        return []
    way = (reader.mark, reader.inner, reader.order, k, asks)
    told = [
        ("late", late(k, asks)),
        ("left", left(k, asks, full, thin)),
        ("lost", (full is not None and lost_full(*way)) or (thin is not None and lost_thin(*way))),
        ("twice", (full is not None and twice_full(*way)) or (thin is not None and twice_thin(*way))),
    ]
    return [kind for kind, holds in told if holds]


def at_start(way, size, asks, full, thin):
    mark, inner, order = way
    reader = Reader(mark, [(size, asks, full, thin)], inner=inner, order=order)
    return kinds_at(reader, (0, tuple(range(len(asks)))))


class Kinds(Case):
    def test_no_live_part(self):
        for way in WAYS:
            for size, asks in [(1, (1,)), (9, (1, 1)), (3, (9, 9, 9, 9))]:
                for full, thin in itertools.product((0, None), repeat=2):
                    mark, inner, order = way
                    reader = Reader(mark, [(size, asks, full, thin)], inner=inner, order=order)
                    self.assert_same(kinds_at(reader, (0, ())), [])

    def test_late(self):
        for way in WAYS:
            for size, asks, wanted in [
                (2, (2, 2), False), (2, (1, 2), True), (2, (2, 1), True), (3, (3, 3, 2), True), (1, (1, 1), False),
                (2, (1,), False), (9, (1,), False), (9, (9, 9), False), (9, (9, 8), True),
            ]:
                self.assertEqual("late" in at_start(way, size, asks, 0, 0), wanted)
                self.assertEqual("late" in at_start(way, size, asks, None, None), wanted)

    def test_left(self):
        for way in WAYS:
            for size, asks, full, thin, wanted in [
                (2, (2, 2), 0, 0, False), (2, (2, 2), None, 0, True), (2, (2, 2), 0, None, False),
                (2, (1, 1), None, 0, True), (3, (1, 1), None, 0, False), (3, (1, 1), 0, None, True),
                (3, (3, 2), 0, None, True), (3, (3, 3), 0, None, False), (1, (1,), 0, None, False),
                (1, (1,), None, 0, True), (2, (1,), None, 0, False), (2, (1,), None, None, True),
            ]:
                self.assertEqual("left" in at_start(way, size, asks, full, thin), wanted)

    def test_lost_behind_a_full_page(self):
        # For each way the asks with which a row can be lost behind a full page of two rows.
        wanted = {
            ("key", "up", "number"): [(2,), (3,), (1, 1), (1, 2), (2, 2)],
            ("key", "down", "back"): [(2,), (3,), (1, 1), (1, 2), (2, 2)],
            ("from", "up", "number"): [],
            ("row", "up", "number"): [(1, 1), (1, 2)],
            ("row", "up", "back"): [(3,), (1, 1), (1, 2), (2, 2)],
            ("row", "up", "part"): [(1, 1), (1, 2), (2, 2)],
            ("row", "down", "number"): [(2,), (3,), (1, 1), (1, 2), (2, 2)],
            ("row", "down", "back"): [(2,), (3,), (1, 1), (1, 2), (2, 2)],
            ("each", "up", "number"): [],
            ("each", "up", "back"): [(3,), (1, 2), (2, 2)],
            ("each", "up", "part"): [],
            ("each", "down", "part"): [(2,), (3,), (1, 1), (1, 2), (2, 2)],
            ("each", "down", "back"): [(2,), (3,), (1, 1), (1, 2), (2, 2)],
            ("count", "up", "number"): [],
            ("count", "up", "back"): [(3,), (1, 2), (2, 2)],
            ("count", "up", "part"): [],
            ("count", "down", "number"): [(3,), (1, 2), (2, 2)],
            ("count", "down", "back"): [],
            ("count", "down", "part"): [(3,), (1, 2), (2, 2)],
            ("rest", "up", "back"): [],
            ("rest", "down", "number"): [],
        }
        for way, some in wanted.items():
            for asks in [(1,), (2,), (3,), (1, 1), (1, 2), (2, 2)]:
                self.assertEqual("lost" in at_start(way, 2, asks, 0, None), asks in some, (way, asks))
                self.assertNotIn("lost", at_start(way, 2, asks, None, None))

    def test_count_and_each_need_an_ask_of_two(self):
        for way in [("each", "up", "back"), ("count", "up", "back"), ("count", "down", "number")]:
            self.assertNotIn("lost", at_start(way, 1, (1, 1), 0, None))
            self.assertNotIn("lost", at_start(way, 3, (1, 1, 1, 1), 0, None))
            self.assertIn("lost", at_start(way, 3, (1, 1, 2), 0, None))
            self.assertNotIn("lost", at_start(way, 4, (1, 1, 2), 0, None))
            self.assertIn("lost", at_start(way, 1, (2,), 0, None))

    def test_lost_behind_a_thin_page(self):
        for way in WAYS:
            mark, inner, _ = way
            short = mark == "key" or (mark in ("row", "each") and inner == "down")
            for size, asks, two in [
                (3, (3,), False), (3, (2,), False), (3, (1,), False), (3, (2, 3), False), (3, (1, 3), True),
                (3, (3, 3), False), (2, (1, 1), False), (1, (1, 1), False), (4, (4, 4, 2), True),
            ]:
                lost = (short and min(asks) < size) or (mark == "row" and two)
                self.assertEqual("lost" in at_start(way, size, asks, None, 0), lost, (way, size, asks))

    def test_twice_behind_a_full_page(self):
        for way in WAYS:
            mark, _, order = way
            for size, asks, fits in [
                (1, (1, 1), True), (2, (1, 1), True), (2, (2,), True), (2, (1,), False), (3, (1, 1), False), (1, (1,), True),
            ]:
                row = size > 1 and (order == "back" or (order == "part" and len(asks) > 1))
                twice = fits and (mark == "from" or (mark == "row" and row))
                self.assertEqual("twice" in at_start(way, size, asks, 0, None), twice, (way, size, asks))
                self.assertNotIn("twice", at_start(way, size, asks, None, None))

    def test_twice_behind_a_thin_page(self):
        for way in WAYS:
            mark, _, order = way
            for size, asks in [(1, (1, 1)), (2, (1, 1)), (2, (9, 9)), (3, (1,)), (3, (2,)), (3, (1, 1)), (9, (1, 1))]:
                row = size > 2 and ((order == "back" and sum(asks) > 1) or (order == "part" and len(asks) > 1))
                twice = (mark == "from" and size > 1) or (mark == "row" and row)
                self.assertEqual("twice" in at_start(way, size, asks, None, 0), twice, (way, size, asks))

    def test_only_live_parts_count(self):
        reader = Reader("row", [(3, (1, 3, 3), 0, None)])
        self.assert_same(kinds_at(reader, (0, (0, 1, 2))), ["late", "left", "lost"])
        self.assert_same(kinds_at(reader, (0, (1, 2))), [])
        self.assert_same(kinds_at(reader, (0, (0,))), ["left"])
        self.assert_same(kinds_at(reader=reader, standing=(0, (0, 2))), ["late", "left", "lost"])

    def test_only_the_state_of_the_standing_counts(self):
        reader = Reader("row", [(1, (1, 1), 1, None), (2, (2, 1), None, 0), (3, (1, 2), 0, 0)])
        self.assert_same(kinds_at(reader, (0, (0, 1))), [])
        self.assert_same(kinds_at(reader, (1, (0, 1))), ["late", "left"])
        self.assert_same(kinds_at(reader, (2, (0, 1))), ["late", "lost"])

    def test_all_kinds_in_their_order(self):
        reader = Reader("row", [(3, (1, 3), 0, None)], order="back")
        self.assert_same(kinds_at(reader, (0, (0, 1))), ["late", "left", "lost", "twice"])
        kinds_at(reader, (0, (0, 1))).clear()
        self.assert_same(kinds_at(reader, (0, (0, 1))), ["late", "left", "lost", "twice"])

    def test_by_the_words_for_one_state(self):
        asked = [asks for parts in (1, 2, 3) for asks in itertools.product(range(1, 5 - parts + 1), repeat=parts)]
        for mark, inner, order in itertools.product(MARKS, INNER, ORDERS):
            for size, asks, full, thin in itertools.product(range(1, 6), asked, (0, None), (0, None)):
                reader = Reader(mark, [(size, asks, full, thin)], inner=inner, order=order)
                standing = (0, tuple(range(len(asks))))
                self.assertEqual(kinds_at(reader, standing), kinds_by_the_words(reader, standing))

    def test_by_the_words_for_all_standings(self):
        for reader in some_readers(13, 20):
            for standing in all_standings(reader):
                self.assertEqual(kinds_at(reader, standing), kinds_by_the_words(reader, standing))

    def test_exact_readers_have_no_faults(self):
        for parts in range(1, 5):
            for size in range(1, 10):
                reader = Reader.exact(parts, size)
                self.assertEqual([kinds_at(reader, standing) for standing in standings(reader)], [[]])
