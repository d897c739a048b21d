import itertools

from partfirsts.errors import InvalidAsk, InvalidNumber, InvalidPart
from partfirsts.readers import Reader
from helper import ODD_VALUES, Case
from model import INNER, MARKS, ORDERS, WAYS

STATES = [(2, (1, 9), 1, None), (9, (3, 4), 0, 2), (1, (2, 1), None, None)]
LISTS = [[(2, (1, 1), 0, None)], [(2, (1, 1), 0, 0)], [(2, (1, 2), 0, None)], [(2, (1,), 0, None)], STATES]


class Readings(Case):
    def test_class_values(self):
        self.assert_same(Reader.MARKS, ("key", "from", "row", "each", "count", "rest"))
        self.assert_same(Reader.INNER, ("up", "down"))
        self.assert_same(Reader.ORDERS, ("number", "back", "part"))
        self.assert_same((Reader.MOST_STATES, Reader.MOST_ASK), (6, 9))
        reader = Reader("row", STATES)
        self.assert_same((reader.MOST_STATES, reader.MOST_ASK), (6, 9))

    def test_mark_and_orders(self):
        for mark, inner, order in WAYS:
            reader = Reader(mark, STATES, inner=inner, order=order)
            self.assert_same((reader.mark, reader.inner, reader.order), (mark, inner, order))

    def test_defaults(self):
        reader = Reader("key", STATES)
        self.assert_same((reader.inner, reader.order), ("up", "number"))
        self.assert_same(Reader("key", STATES, order="part").inner, "up")
        self.assert_same(Reader("key", STATES, inner="down").order, "number")
        self.assert_same(Reader(mark="key", states=STATES), reader)

    def test_orders_are_keyword_only(self):
        self.assertRaises(TypeError, Reader, "key", STATES, "up")

    def test_parts(self):
        for parts in range(1, 5):
            self.assert_same(Reader("row", [(1, (1,) * parts, None, None)]).parts, parts)
        self.assert_same(Reader("row", STATES).parts, 2)

    def test_states(self):
        self.assert_same(Reader("row", STATES).states(), STATES)
        self.assert_same(Reader("row", tuple(STATES)).states(), STATES)

    def test_length(self):
        for many in range(1, 7):
            states = [(1, (1,), many - 1, 0)] * many
            self.assert_same(len(Reader("row", states)), many)
            self.assert_same(Reader("row", states).states(), states)
            self.assertTrue(Reader("row", states))

    def test_repr(self):
        self.assertEqual(repr(Reader("row", STATES[:1] * 2)), "Reader(row, 2 states)")
        self.assertEqual(repr(Reader("count", [(1, (1,), None, None)])), "Reader(count, 1 states)")
        self.assertEqual(str(Reader("key", STATES, inner="down", order="back")), "Reader(key, 3 states)")

    def test_equality(self):
        kinds = list(itertools.product(MARKS, INNER, ORDERS, range(len(LISTS))))
        readers = [Reader(mark, LISTS[at], inner=inner, order=order) for mark, inner, order, at in kinds]
        for one, kind in zip(readers, kinds):
            for other, other_kind in zip(readers, kinds):
                self.assertIs(one == other, kind == other_kind)
                self.assertIs(one != other, kind != other_kind)

    def test_equal_readers_of_other_lists(self):
        self.assertTrue(Reader("row", STATES) == Reader("row", tuple(STATES), inner="up", order="number"))
        self.assertFalse(Reader("row", STATES) == Reader("row", [STATES[0], STATES[1], (1, (2, 1), None, 0)]))
        self.assertFalse(Reader("row", STATES) == Reader("row", [STATES[1], STATES[0], STATES[2]]))

    def test_a_reader_equals_nothing_else(self):
        reader = Reader("row", STATES)
        for value in [*ODD_VALUES, "row", STATES, tuple(STATES), ("row", STATES), repr(reader), 3, object()]:
            self.assertIs(reader == value, False)
            self.assertIs(value == reader, False)
            self.assertIs(reader != value, True)

    def test_properties_cannot_be_assigned(self):
        reader = Reader("row", STATES)
        for name in ("mark", "inner", "order", "parts"):
            self.assertRaises(AttributeError, setattr, reader, name, "key")
        self.assert_same(reader, Reader("row", STATES))


class Copies(Case):
    def test_what_is_passed_may_be_changed(self):
        states = list(STATES)
        reader = Reader("row", states)
        states.reverse()
        states.append((1, (1,), None, None))
        self.assert_same(reader.states(), STATES)
        self.assert_same((len(reader), reader.parts), (3, 2))

    def test_what_is_passed_is_not_changed(self):
        states = list(STATES)
        Reader("row", states).with_asks(1, 1)
        self.assert_same(states, STATES)

    def test_what_is_returned_may_be_changed(self):
        reader = Reader("row", STATES)
        reader.states().clear()
        reader.states()[0] = None
        self.assert_same(reader.states(), STATES)
        self.assert_same(Reader("row", reader.states()), reader)


class Exact(Case):
    def test_reader(self):
        for parts in range(1, 5):
            for size in range(1, 10):
                reader = Reader.exact(parts, size)
                self.assert_same((reader.mark, reader.inner, reader.order), ("row", "up", "number"))
                self.assert_same(reader.states(), [(size, (size,) * parts, 0, None)])
                self.assert_same(Reader.exact(size=size, parts=parts), reader)

    def test_errors(self):
        for value in [*ODD_VALUES, 0, 5, -1, 10 ** 29]:
            self.assert_error(InvalidPart, [value], Reader.exact, value, 1)
            self.assert_error(InvalidPart, [value], Reader.exact, value, 0)
        for value in [*ODD_VALUES, 0, 10, -1, 10 ** 29]:
            self.assert_error(InvalidNumber, [value], Reader.exact, 4, value)


class WithAsks(Case):
    def test_all_states_have_the_asks(self):
        for mark, inner, order in WAYS:
            reader = Reader(mark, STATES, inner=inner, order=order)
            other = reader.with_asks(9, 2)
            states = [(size, (9, 2), full, thin) for size, _, full, thin in STATES]
            self.assert_same(other, Reader(mark, states, inner=inner, order=order))
            self.assert_same(other.states(), states)
            self.assert_same(reader.states(), STATES)

    def test_each_number_of_parts(self):
        for parts in range(1, 5):
            reader = Reader("row", [(3, (1,) * parts, 0, None)])
            asks = tuple(range(6, 6 + parts))
            self.assert_same(reader.with_asks(*asks).states(), [(3, asks, 0, None)])
            self.assert_same(reader.with_asks(*[1] * parts), reader)

    def test_no_asks(self):
        reader = Reader("row", STATES)
        for value in [*ODD_VALUES, 0, 10, -1, 10 ** 29]:
            self.assert_error(InvalidAsk, [value], reader.with_asks, value, 1)
            self.assert_error(InvalidAsk, [value], reader.with_asks, 9, value)
            self.assert_error(InvalidAsk, [value], reader.with_asks, 1, value, 10)
            self.assert_error(InvalidAsk, [value], reader.with_asks, value)
            self.assert_error(InvalidAsk, [value], reader.with_asks, 1, 2, 3, 4, value)

    def test_number_of_asks(self):
        for parts in range(1, 5):
            reader = Reader("row", [(3, (1,) * parts, 0, None)])
            for many in range(7):
                if many != parts:
                    self.assert_error(InvalidAsk, [None], reader.with_asks, *[1] * many)
