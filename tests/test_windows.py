import itertools
import random

from partfirsts.errors import InvalidAsk, InvalidNumber, InvalidRow
from partfirsts.tables import Table
from partfirsts.windows import window, window_table
from helper import ODD_VALUES, Case
from test_hands import COPY, TIES
from test_right_readers import tied_table


def window_by_the_words(table, asks, skip, size):
    sent = []
    for part, ask in enumerate(asks):
        rows = sorted((key, number) for key, number, lies in table.rows() if lies == (part,))
        sent += [row for at, row in enumerate(rows) if at < ask]
    return [row for at, row in enumerate(sorted(sent)) if skip <= at < skip + size]


class Windows(Case):
    def test_few_windows(self):
        places = TIES.places()
        self.assert_same(window(TIES, (9, 9), 0, 50), places)
        self.assert_same(window(TIES, (9, 9), 3, 2), places[3:5])
        self.assert_same(window(TIES, (1, 1), 0, 2), [(0, 3), (0, 4)])
        self.assert_same(window(TIES, (1, 2), 1, 5), [(0, 4), (0, 5)])
        self.assert_same(window(TIES, (1, 2), 3, 5), [])
        self.assert_same(window(TIES, (4, 4), 7, 5), [(2, 7)])
        self.assert_same(window(TIES, (4, 4), 0, 0), [])
        self.assert_same(window(Table(2, []), (1, 1), 0, 5), [])

    def test_by_the_words(self):
        rng = random.Random(91)
        for _ in range(400):
            table = tied_table(rng, rng.randint(1, 4), plain=True)
            asks = tuple(rng.randint(1, 9) for _ in range(table.parts))
            skip, size = rng.randint(0, 9), rng.randint(0, 9)
            self.assert_same(window(table, asks, skip, size), window_by_the_words(table, asks, skip, size))

    def test_the_fact(self):
        rng = random.Random(92)
        for _ in range(400):
            table = tied_table(rng, rng.randint(1, 4), plain=True)
            skip, size = rng.randint(0, 5), rng.randint(0, 5)
            asks = tuple(max(1, skip + size) + rng.randint(0, 2) for _ in range(table.parts))
            self.assert_same(window(table, asks, skip, size), table.places()[skip:skip + size])

    def test_bounds(self):
        table = Table(1, [(0, number, (0,)) for number in range(120)])
        self.assert_same(window(table, (99,), 50, 50), table.places()[50:99])
        self.assert_same(window(table, (1,), 0, 50), table.places()[:1])
        self.assert_same(window(asks=(60,), size=50, table=table, skip=50), table.places()[50:60])

    def test_the_table_and_what_is_returned(self):
        table = Table(2, TIES.rows())
        window(table, (9, 9), 0, 50).clear()
        self.assertEqual(table, TIES)
        self.assert_same(window(table, (9, 9), 0, 50), TIES.places())


class WindowErrors(Case):
    def test_rows(self):
        self.assert_error(InvalidRow, [1], window, COPY, (1, 1), 0, 1)
        self.assert_error(InvalidRow, [2], window, COPY.moved(2, 1), None, -1, -1)

    def test_asks(self):
        for value in [*ODD_VALUES, 0, 1, [1, 1], (1,), (1, 1, 1), "11", (0, 0, 0)]:
            if value not in [("a", 1), (0, 1)]:
                self.assert_error(InvalidAsk, [None], window, TIES, value, -1, -1)
        for value in [*ODD_VALUES, 0, 100, -1, 10 ** 29]:
            self.assert_error(InvalidAsk, [value], window, TIES, (value, 1), -1, -1)
            self.assert_error(InvalidAsk, [value], window, TIES, (99, value), 0, 0)
            self.assert_error(InvalidAsk, [value], window, TIES, (value, 0), 0, 0)
        window(TIES, (1, 99), 0, 0)

    def test_numbers(self):
        for value in [*ODD_VALUES, 51, -1, 10 ** 29]:
            self.assert_error(InvalidNumber, [value], window, TIES, (1, 1), value, -1)
            self.assert_error(InvalidNumber, [value], window, TIES, (1, 1), 0, value)
            self.assert_error(InvalidNumber, [value], window, TIES, (1, 1), 50, value)
            self.assert_error(InvalidNumber, [value], window_table, (1, 1), value, -1)
            self.assert_error(InvalidNumber, [value], window_table, (99, 99), 0, value)
            self.assert_error(InvalidNumber, [value], window_table, (1, 1), 50, value)

    def test_asks_of_window_table(self):
        for value in [*ODD_VALUES, 0, 1, [1, 1], (1,) * 5, "11", (0,) * 5]:
            if not isinstance(value, tuple) or not 1 <= len(value) <= 4:
                self.assert_error(InvalidAsk, [None], window_table, value, -1, -1)
        for value in [*ODD_VALUES, 0, 100, -1, 10 ** 29]:
            for asks in [(value,), (1, value), (99, 1, value), (1, 1, 1, value), (value, 0, 0)]:
                self.assert_error(InvalidAsk, [value], window_table, asks, -1, -1)


class WindowTables(Case):
    def check(self, asks, skip, size):
        table = window_table(asks, skip, size)
        right = size == 0 or all(ask >= skip + size for ask in asks)
        self.assertIs(table is None, right)
        if table is not None:
            self.assertEqual((table.plain, table.parts), (True, len(asks)))
            self.assertNotEqual(window(table, asks, skip, size), table.places()[skip:skip + size])

    def test_small_numbers(self):
        for asks in itertools.chain.from_iterable(itertools.product((1, 2, 3, 5), repeat=many) for many in range(1, 5)):
            for skip, size in itertools.product((0, 1, 2, 3), (0, 1, 2)):
                self.check(asks, skip, size)

    def test_great_numbers(self):
        for asks in [(99,), (98,), (99, 99), (99, 50, 99), (49, 99), (1, 99, 99, 99), (99, 99, 99, 99), (51, 51)]:
            for skip, size in itertools.product((0, 1, 48, 49, 50), repeat=2):
                self.check(asks, skip, size)

    def test_by_name(self):
        self.assertIsNone(window_table(size=1, skip=2, asks=(3, 3)))
        self.assertIsInstance(window_table(size=1, skip=2, asks=(3, 2)), Table)
