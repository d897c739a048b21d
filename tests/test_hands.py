import inspect
import itertools
import random

from partfirsts.errors import InvalidAsk, InvalidNumber, InvalidOrder, InvalidPart, InvalidRow
from partfirsts.hands import Hand
from partfirsts.readers import Reader
from partfirsts.runs import judge
from partfirsts.tables import Table
from helper import ODD_VALUES, Case
from model import INNER, ORDERS
from test_right_readers import tied_table

TIES = Table(2, [
    (0, 3, (0,)), (0, 6, (0,)), (1, 2, (0,)), (2, 1, (0,)), (0, 5, (1,)), (0, 4, (1,)), (1, 8, (1,)), (2, 7, (1,)),
])
COPY = Table(2, [(0, 3, (0,)), (1, 2, (0, 1)), (2, 1, (0, 1))])


class HandModel:
    """Point [14] again, with the rows of each part as one list and a mark on each row."""

    def __init__(self, table, asks, size, inner, order):
        self.asks, self.size, self.inner, self.order = asks, size, inner, order
        sign = 1 if inner == "up" else -1
        self.parts = []
        for part in range(table.parts):
            rows = [[key, number, "waits"] for key, number, lies in table.rows() if lies == (part,)]
            self.parts.append(sorted(rows, key=lambda row: (row[0], sign * row[1])))

    def of(self, mark):
        return [(row, part) for part, rows in enumerate(self.parts) for row in rows if row[2] == mark]

    def page(self):
        for part, rows in enumerate(self.parts):
            more = self.asks[part] - len([row for row in rows if row[2] == "held"])
            for row in [row for row in rows if row[2] == "waits"][:more]:
                row[2] = "held"
        tie = {
            "number": lambda row, part: (row[1],), "back": lambda row, part: (-row[1],),
            "part": lambda row, part: (part, row[1]),
        }[self.order]
        held = sorted(self.of("held"), key=lambda pair: (pair[0][0], *tie(*pair)))
        for row, _ in held[:self.size]:
            row[2] = "told"
        return [(row[0], row[1]) for row, _ in held[:self.size]]

    def held(self):
        return sorted((row[0], row[1]) for row, _ in self.of("held"))

    def left(self, part):
        return len([row for row in self.parts[part] if row[2] == "waits"])


def some_hands(seed, rounds, most=24):
    rng = random.Random(seed)
    for _ in range(rounds):
        for inner, order in itertools.product(INNER, ORDERS):
            table = tied_table(rng, rng.randint(1, 4), plain=True, most=most)
            asks = tuple(rng.randint(1, rng.choice([2, 4, 9])) for _ in range(table.parts))
            size = rng.randint(1, rng.choice([2, 4, 9]))
            yield Hand(table, asks, size, inner=inner, order=order), HandModel(table, asks, size, inner, order), table, rng


class Pages(Case):
    def test_a_hand_page_by_page(self):
        hand = Hand(TIES, (2, 1), 2)
        self.assert_same((hand.held(), hand.left(0), hand.left(1), len(hand)), ([], 4, 4, 0))
        self.assert_same(hand.page(), [(0, 3), (0, 4)])
        self.assert_same((hand.held(), hand.left(0), hand.left(1), len(hand)), ([(0, 6)], 2, 3, 2))
        self.assert_same(hand.page(), [(0, 5), (0, 6)])
        self.assert_same((hand.held(), hand.left(0), hand.left(1), len(hand)), ([(1, 2)], 1, 2, 4))
        self.assert_same([hand.page(), hand.page()], [[(1, 2), (1, 8)], [(2, 1), (2, 7)]])
        self.assert_same((hand.held(), hand.left(0), hand.left(1), len(hand)), ([], 0, 0, 8))
        self.assert_same([hand.page(), hand.page(), len(hand), bool(hand)], [[], [], 8, True])

    def test_the_orders(self):
        for inner, order, pages in [
            ("up", "number", [[(0, 3), (0, 4), (0, 5)], [(0, 6), (1, 2), (1, 8)], [(2, 1), (2, 7)]]),
            ("up", "back", [[(0, 6), (0, 5), (0, 4)], [(0, 3), (1, 8), (1, 2)], [(2, 7), (2, 1)]]),
            ("up", "part", [[(0, 3), (0, 6), (0, 4)], [(0, 5), (1, 2), (1, 8)], [(2, 1), (2, 7)]]),
        ]:
            self.assert_same(list(Hand(TIES, (2, 2), 3, inner=inner, order=order).walk()), pages)
        for inner, pages in [("up", [[(0, 3)], [(0, 6)]]), ("down", [[(0, 6)], [(0, 3)]])]:
            hand = Hand(TIES, (1, 1), 1, inner=inner, order="part")
            self.assert_same([hand.page(), hand.page()], pages)

    def test_against_the_model(self):
        for hand, model, table, _ in some_hands(81, 40):
            told = 0
            for _ in range(len(table) + 2):
                page = hand.page()
                told += len(page)
                self.assert_same(page, model.page())
                self.assert_same(hand.held(), model.held())
                self.assert_same([hand.left(part) for part in range(table.parts)], [
                    model.left(part) for part in range(table.parts)
                ])
                self.assert_same((len(hand), bool(hand)), (told, True))
            self.assert_same((hand.page(), hand.held(), len(hand)), ([], [], len(table)))

    def test_sizes_that_change(self):
        for hand, model, table, rng in some_hands(82, 20):
            for turn in range(len(table)):
                model.size = rng.randint(1, 9)
                if turn % 2:
                    hand.size = model.size
                else:
                    self.assertIsNone(hand.set_size(model.size))
                self.assert_same(hand.size, model.size)
                self.assert_same((hand.page(), hand.held()), (model.page(), model.held()))

    def test_the_fact_of_a_reader_with_the_mark_rest(self):
        kinds = set()
        for hand, model, table, _ in some_hands(83, 60):
            reader = Reader("rest", [(model.size, model.asks, 0, 0)], inner=model.inner, order=model.order)
            kind, _, pages = judge(reader, table)
            kinds.add(kind)
            self.assert_same([hand.page() for _ in pages], pages)
            if kind == "right":
                self.assert_same(hand.page(), [])
        self.assertEqual(kinds, {"right", "late"})

    def test_a_hand_that_tells_late(self):
        table = Table(2, [(0, 1, (0,)), (0, 2, (0,)), (1, 3, (1,))])
        self.assert_same(list(Hand(table, (1, 1), 2).walk()), [[(0, 1), (1, 3)], [(0, 2)]])

    def test_no_rows(self):
        for parts in range(1, 5):
            hand = Hand(Table(parts, []), (1,) * parts, 9)
            self.assert_same((hand.page(), hand.held(), len(hand), bool(hand), list(hand.walk())), ([], [], 0, True, []))

    def test_the_table_and_what_is_returned(self):
        table = Table(2, TIES.rows())
        hand = Hand(table, (2, 2), 1)
        page, held = hand.page(), hand.held()
        page.clear()
        held.clear()
        self.assert_same(hand.held(), [(0, 4), (0, 5), (0, 6)])
        self.assertEqual((len(hand), table), (1, TIES))


class Walks(Case):
    def test_each_page_is_made_when_it_is_asked_for(self):
        hand = Hand(TIES, (2, 2), 3)
        self.assertTrue(inspect.isgeneratorfunction(Hand.walk))
        walk = hand.walk()
        self.assert_same((len(hand), hand.left(0)), (0, 4))
        self.assert_same((next(walk), len(hand)), ([(0, 3), (0, 4), (0, 5)], 3))
        self.assert_same(hand.page(), [(0, 6), (1, 2), (1, 8)])
        hand.size = 1
        self.assert_same((next(walk), len(hand)), ([(2, 1)], 7))
        self.assert_same((list(walk), list(walk), len(hand)), ([[(2, 7)]], [], 8))

    def test_a_walk_that_is_begun_in_part(self):
        hand = Hand(TIES, (2, 2), 3)
        walk = hand.walk()
        next(walk)
        walk.close()
        self.assert_same((hand.page(), list(hand.walk()), hand.page()), (
            [(0, 6), (1, 2), (1, 8)], [[(2, 1), (2, 7)]], [],
        ))

    def test_two_walks(self):
        hand = Hand(TIES, (4, 4), 2)
        one, other = hand.walk(), hand.walk()
        self.assert_same([next(one), next(other), next(one), next(other)], [
            [(0, 3), (0, 4)], [(0, 5), (0, 6)], [(1, 2), (1, 8)], [(2, 1), (2, 7)],
        ])
        self.assert_same((list(one), list(other)), ([], []))

    def test_pages_that_are_changed_by_the_caller(self):
        hand = Hand(TIES, (2, 2), 3)
        many = 0
        for page in hand.walk():
            many += len(page)
            page.clear()
        self.assert_same((many, len(hand)), (8, 8))

    def test_all_pages(self):
        for hand, model, table, _ in some_hands(84, 10):
            pages = list(hand.walk())
            self.assert_same(pages, [model.page() for _ in pages])
            self.assert_same((len(hand), hand.page(), model.page()), (len(table), [], []))


class Errors(Case):
    def test_rows_that_lie_in_several_parts(self):
        self.assert_error(InvalidRow, [1], Hand, COPY, (1, 1), 1)
        self.assert_error(InvalidRow, [1], Hand, COPY, None, 0, inner="a", order="b")
        self.assert_error(InvalidRow, [2], Hand, COPY.moved(2, 0), (1, 1), 1)
        self.assert_error(InvalidRow, [0], Hand, Table(2, [(0, 9, (0, 1))]), (1, 1), 1)
        Hand(COPY.moved(2, 0).moved(1, 1), (1, 1), 1)

    def test_asks_that_are_no_tuple_of_as_many(self):
        for value in [*ODD_VALUES, 0, 1, [1, 1], (1,), (1, 1, 1), "11", ((1, 1),), (), (0, 0, 0)]:
            if value not in [("a", 1), (0, 1)]:
                self.assert_error(InvalidAsk, [None], Hand, TIES, value, 0, inner="a", order="b")
        for parts in range(1, 5):
            for many in range(6):
                if many != parts:
                    self.assert_error(InvalidAsk, [None], Hand, Table(parts, []), (1,) * many, 1)

    def test_asks_that_are_none(self):
        for value in [*ODD_VALUES, 0, 10, -1, 10 ** 29]:
            self.assert_error(InvalidAsk, [value], Hand, TIES, (value, 1), 0, inner="a", order="b")
            self.assert_error(InvalidAsk, [value], Hand, TIES, (9, value), 1)
            self.assert_error(InvalidAsk, [value], Hand, TIES, (value, 0), 1)
        for ask in range(1, 10):
            Hand(TIES, (ask, 10 - ask), 1)

    def test_sizes(self):
        for value in [*ODD_VALUES, 0, 10, -1, 10 ** 29]:
            self.assert_error(InvalidNumber, [value], Hand, TIES, (1, 1), value)
            self.assert_error(InvalidNumber, [value], Hand, TIES, (1, 1), value, inner="a", order="b")
        for size in range(1, 10):
            self.assert_same(Hand(TIES, (1, 1), size).size, size)

    def test_orders(self):
        for value in [*ODD_VALUES, 0, "Up", "number", ("up",)]:
            self.assert_error(InvalidOrder, [value], Hand, TIES, (1, 1), 1, inner=value)
            self.assert_error(InvalidOrder, [value], Hand, TIES, (1, 1), 1, inner=value, order="b")
        for value in [*ODD_VALUES, 0, "Number", "up", ("part",)]:
            self.assert_error(InvalidOrder, [value], Hand, TIES, (1, 1), 1, order=value)

    def test_parts_of_left(self):
        hand = Hand(TIES, (1, 1), 1)
        for value in [*ODD_VALUES, 2, -1, 10 ** 29]:
            self.assert_error(InvalidPart, [value], hand.left, value)
        self.assert_same((hand.left(0), hand.left(part=1)), (4, 4))
        self.assert_error(InvalidPart, [1], Hand(Table(1, []), (1,), 1).left, 1)

    def test_a_refused_size_changes_nothing(self):
        hand = Hand(TIES, (2, 2), 3)
        hand.page()
        for value in [*ODD_VALUES, 0, 10, -1]:
            self.assert_error(InvalidNumber, [value], hand.set_size, value)
            self.assert_error(InvalidNumber, [value], setattr, hand, "size", value)
            self.assert_same((hand.size, len(hand), hand.held()), (3, 3, [(0, 6)]))
        self.assert_same(hand.page(), [(0, 6), (1, 2), (1, 8)])

    def test_arguments(self):
        hand = Hand(size=2, asks=(1, 1), table=TIES)
        self.assert_same(hand.page(), [(0, 3), (0, 4)])
        self.assertRaises(TypeError, Hand, TIES, (1, 1), 1, "up")
        hand.set_size(value=1)
        self.assert_same(hand.size, 1)
