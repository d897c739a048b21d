import itertools
import random

from partfirsts.asking import least_asks, sways
from partfirsts.errors import InvalidNumber, WrongReader
from partfirsts.faults import KINDS, possible
from partfirsts.readers import Reader
from partfirsts.runs import judge
from partfirsts.tables import Table
from partfirsts.verdicts import decide, is_right
from helper import ODD_VALUES, Case
from model import Model, WAYS, whole_readers
from test_right_readers import tied_table
from test_standings import some_readers


def nowhere_greater(one, other):
    return all(ask <= most for ask, most in zip(one, other))


def least_by_the_words(reader, most):
    every = list(itertools.product(range(1, most + 1), repeat=reader.parts))
    rights = {asks for asks in every if is_right(reader.with_asks(*asks))}
    return [
        asks for asks in every
        if asks in rights and not any(other != asks and nowhere_greater(other, asks) for other in rights)
    ]


class LeastAsks(Case):
    def test_exact_readers(self):
        for parts in range(1, 5):
            for size in range(1, 7):
                reader = Reader.exact(parts, size)
                for most in range(1, 7):
                    self.assert_same(least_asks(reader, most=most), [(size,) * parts] if size <= most else [])

    def test_one_part_needs_few_asks_if_it_goes_on_behind_thin_pages(self):
        self.assert_same(least_asks(Reader("row", [(4, (9,), 0, 0)])), [(1,)])
        self.assert_same(least_asks(Reader("row", [(4, (9,), 0, None)])), [(4,)])
        self.assert_same(least_asks(Reader("row", [(4, (9,), None, 0)])), [(1,)])
        self.assert_same(least_asks(Reader("row", [(5, (9,), 0, None)])), [])
        self.assert_same(least_asks(Reader("row", [(5, (9,), 0, None)]), most=5), [(5,)])

    def test_few_readers(self):
        for mark, inner, order, states, asks in [
            ("each", "up", "back", [(1, (9, 9), 0, None)], [(1, 1)]),
            ("each", "up", "back", [(2, (9, 9), 0, None)], []),
            ("count", "down", "part", [(1, (9, 9, 9), 0, 0)], [(1, 1, 1)]),
            ("rest", "down", "number", [(1, (1, 1), 1, None), (3, (1, 1), 0, None)], [(3, 3)]),
            ("rest", "up", "number", [(2, (1, 1), 1, None), (1, (1, 1), 0, None)], [(2, 2)]),
            ("rest", "up", "number", [(2, (1, 1), None, None)], []),
            ("key", "up", "number", [(1, (1, 1), 0, None)], []),
            ("from", "up", "number", [(1, (1,), 0, None)], []),
        ]:
            self.assert_same(least_asks(Reader(mark, states, inner=inner, order=order)), asks)

    def test_by_the_words(self):
        for reader in [*some_readers(71, 5), *whole_readers(72, 8)]:
            for most in (1, 2, 3):
                self.assert_same(least_asks(reader, most=most), least_by_the_words(reader, most))

    def test_rightness_that_is_lost_with_greater_asks(self):
        reader = Reader("count", [(1, (1, 1), 0, None)], order="back")
        self.assert_same(least_by_the_words(reader, 3), [(1, 1)])
        self.assert_same((least_asks(reader, most=3), is_right(reader.with_asks(2, 2))), ([(1, 1)], False))

    def test_the_default(self):
        for reader in whole_readers(73, 4):
            self.assert_same(least_asks(reader), least_asks(reader, most=4))
        self.assert_same(least_asks(Reader.exact(2, 4)), [(4, 4)])
        self.assert_same(least_asks(Reader.exact(2, 5)), [])

    def test_one_to_six_are_let(self):
        for most in range(1, 7):
            self.assert_same(least_asks(Reader.exact(1, 1), most=most), [(1,)])
            self.assert_same(least_asks(reader=Reader.exact(2, 6), most=most), [(6, 6)] if most == 6 else [])
        self.assert_same(least_asks(Reader.exact(4, 6), most=6), [(6, 6, 6, 6)])

    def test_other_numbers(self):
        for reader in (Reader.exact(2, 2), Reader("key", [(1, (1,), 0, 0)])):
            for value in [*ODD_VALUES, 0, 7, -1, 10 ** 29]:
                self.assert_error(InvalidNumber, [value], least_asks, reader, most=value)
        self.assertRaises(TypeError, least_asks, Reader.exact(2, 2), 4)

    def test_the_reader_stays_and_the_list_is_new(self):
        reader = Reader("row", [(2, (1, 4), 0, None)])
        least_asks(reader).clear()
        self.assert_same((least_asks(reader), reader.states()), ([(2, 2)], [(2, (1, 4), 0, None)]))


class Sways(Case):
    def told(self, reader, table):
        kind, _, pages = judge(reader, table)
        self.assertEqual((kind, Model(reader, table).judged()), ("right", (kind, None, pages)))
        return [number for page in pages for _, number in page]

    def check(self, reader):
        pair = sways(reader)
        unmoved = reader.parts == 1 or (reader.inner, reader.order) in [("up", "number"), ("down", "back")]
        self.assertIs(pair is None, unmoved, (reader, reader.states()))
        if pair is not None:
            one, other = pair
            self.assertEqual((one.plain, other.plain, one.parts, other.parts), (True, True, reader.parts, reader.parts))
            self.assert_same(one.places(), other.places())
            self.assertNotEqual(self.told(reader, one), self.told(reader, other))

    def test_right_readers(self):
        swayed = set()
        for reader in [*whole_readers(74, 60), *some_readers(75, 12)]:
            if is_right(reader):
                self.check(reader)
                if sways(reader):
                    swayed.add((reader.mark, reader.inner, reader.order))
        self.assertEqual(swayed, {
            *itertools.product(("each", "count", "rest"), ("up",), ("back", "part")),
            *itertools.product(("count", "rest"), ("down",), ("number", "part")),
        })

    def test_all_sizes_and_asks_of_one_state(self):
        for mark, inner, order in WAYS:
            for size, ask, other in itertools.product((1, 2, 5, 9), (1, 2, 5, 9), (1, 5, 9)):
                reader = Reader(mark, [(size, (ask, other, 9), 0, None)], inner=inner, order=order)
                if is_right(reader):
                    self.check(reader)

    def test_exact_readers_do_not_sway(self):
        for parts in range(1, 5):
            for size in range(1, 10):
                self.assertIsNone(sways(Reader.exact(parts, size)))

    def test_readers_that_do_not_sway_tell_alike(self):
        rng, seen = random.Random(76), set()
        for reader in whole_readers(77, 24):
            if is_right(reader) and sways(reader) is None:
                seen.add((reader.mark, reader.parts > 1))
                for _ in range(3):
                    table = tied_table(rng, reader.parts, plain=True)
                    rows = [(key, number, (rng.randrange(reader.parts),)) for key, number in table.places()]
                    self.assertEqual(self.told(reader, table), self.told(reader, Table(reader.parts, rows)))
        for mark in ("each", "count", "rest"):
            self.assertTrue({(mark, True), (mark, False)} <= seen)

    def test_wrong_readers(self):
        seen = set()
        for reader in [*some_readers(78, 12), *whole_readers(79, 12)]:
            kinds = [kind for kind in KINDS if possible(reader, kind)]
            if kinds:
                self.assert_error(WrongReader, [kinds[0]], sways, reader)
                seen.add(kinds[0])
            else:
                self.assertTrue(decide(reader))
                sways(reader)
        self.assertEqual(seen, set(KINDS))

    def test_by_name(self):
        self.assertIsNone(sways(reader=Reader.exact(2, 2)))
        self.assert_error(WrongReader, ["lost"], sways, reader=Reader("key", [(1, (1,), 0, 0)]))
