import itertools

from partfirsts.errors import DuplicateNumber, InvalidPart, InvalidRow, PartsDiffer, TooMany, UnknownNumber
from partfirsts.tables import Table
from helper import ODD_VALUES, Case

ROWS = [(0, 1, (0,)), (0, 4, (0, 2)), (3, 0, (1,)), (3, 1000000000, (0, 1, 2))]
NO_NUMBERS = [*ODD_VALUES, -1, 2, 3, 999999999, 10 ** 29]


def rows_to(many, start=0):
    return [(number // 7, number, (number % 2,)) for number in range(start, start + many)]


class Stays(Case):
    """Each test looks at the end whether the first table stays."""

    def setUp(self):
        self.table = Table(3, ROWS)

    def tearDown(self):
        self.assert_same(self.table.rows(), ROWS)
        self.assert_same((self.table.parts, len(self.table), self.table.plain), (3, 4, False))
        self.assert_same([number for number in (0, 1, 2, 3, 4, 5, 9) if number in self.table], [0, 1, 4])
        self.assert_same(self.table.parts_of(4), (0, 2))


class Moved(Stays):
    def test_parts_in_any_order(self):
        for many in range(1, 4):
            for parts in itertools.permutations(range(3), many):
                for at, (key, number, _) in enumerate(ROWS):
                    moved = self.table.moved(number, *parts)
                    row = (key, number, tuple(sorted(parts)))
                    self.assert_same(moved.rows(), [*ROWS[:at], row, *ROWS[at + 1:]])
                    self.assertEqual(moved.parts, 3)
                    self.assert_same(moved.parts_of(number), tuple(sorted(parts)))

    def test_twice_and_back(self):
        moved = self.table.moved(1, 2, 1).moved(4, 0)
        self.assert_same(moved.parts_of(1), (1, 2))
        self.assertTrue(moved.moved(4, 2, 0).moved(1, 0) == self.table)

    def test_unknown_number_comes_first(self):
        for value in NO_NUMBERS:
            self.assert_error(UnknownNumber, [value], self.table.moved, value)
            self.assert_error(UnknownNumber, [value], self.table.moved, value, 0)
            self.assert_error(UnknownNumber, [value], self.table.moved, value, 7, 7)

    def test_no_parts(self):
        self.assert_error(InvalidPart, [None], self.table.moved, 1)

    def test_no_part_of_the_table(self):
        for value in [*ODD_VALUES, -1, 3, 4, 10 ** 29]:
            self.assert_error(InvalidPart, [value], self.table.moved, 1, value)
            self.assert_error(InvalidPart, [value], self.table.moved, 1, 0, 1, value)
            self.assert_error(InvalidPart, [value], self.table.moved, 1, value, value, 0, 0)
            self.assert_error(InvalidPart, [value], self.table.moved, 1, 1, 0, value, 1)

    def test_doubles(self):
        for parts, first in [((0, 0), 0), ((2, 1, 2), 2), ((0, 1, 1, 0), 1), ((0, 1, 2, 2), 2), ((1, 1, 5), 1)]:
            self.assert_error(InvalidPart, [first], self.table.moved, 4, *parts)

    def test_a_full_table(self):
        table = Table(2, rows_to(300))
        self.assertEqual(len(table.moved(299, 0, 1)), 300)


class WithRow(Stays):
    def test_one_more(self):
        for row in [(-9, 9, (0,)), (0, 3, (1, 2)), (1, 5, (2,)), (9, 2, (0, 1, 2))]:
            self.assert_same(self.table.with_row(row).rows(), sorted([*ROWS, row]))
            self.assert_same(self.table.with_row(row=row).place_of(row[1]), row[:2])
        self.assert_same(Table(1, []).with_row((0, 0, (0,))).rows(), [(0, 0, (0,))])

    def test_no_row(self):
        for value in [
            *ODD_VALUES, 0, [0, 9, (0,)], (0, 9), (0, 9, [0]), (0, 9, ()), (0, 9, (3,)), (0, 9, (1, 0)), (0, 9, (1, 1)),
            (True, 9, (0,)), (0, True, (0,)), (0, -1, (0,)), (0, 10 ** 9 + 1, (0,)), (10 ** 9 + 1, 9, (0,)),
            (-10 ** 9 - 1, 1, (0,)), (0, 1, (True,)),
        ]:
            self.assert_error(InvalidRow, [0], self.table.with_row, value)

    def test_double(self):
        for row in [(0, 1, (0,)), (8, 4, (1,)), (-5, 0, (2,)), (3, 1000000000, (0, 1, 2))]:
            self.assert_error(DuplicateNumber, [row[1]], self.table.with_row, row)

    def test_too_many(self):
        nearly, full = Table(2, rows_to(299)), Table(2, rows_to(300))
        self.assertTrue(nearly.with_row(rows_to(300)[-1]) == full)
        self.assert_error(TooMany, [300], full.with_row, (0, 300, (0,)))
        self.assert_error(DuplicateNumber, [7], full.with_row, (0, 7, (0,)))
        self.assert_error(InvalidRow, [0], full.with_row, (0, 7, (2,)))
        self.assertEqual((len(nearly), len(full)), (299, 300))


class Without(Stays):
    def test_any_numbers(self):
        for many in range(5):
            for numbers in itertools.permutations([row[1] for row in ROWS], many):
                left = self.table.without(*numbers)
                self.assert_same(left.rows(), [row for row in ROWS if row[1] not in numbers])
                self.assertEqual(left.parts, 3)

    def test_no_number_of_a_row(self):
        for value in NO_NUMBERS:
            self.assert_error(UnknownNumber, [value], self.table.without, value)
            self.assert_error(UnknownNumber, [value], self.table.without, 1, 0, value, 1)
            self.assert_error(UnknownNumber, [value], self.table.without, value, 77, 1, 1)
        self.assert_error(UnknownNumber, [0], Table(1, []).without, 0)

    def test_doubles(self):
        for numbers, first in [((1, 1), 1), ((1, 4, 0, 4, 1), 4), ((0, 0, 7), 0), ((0, 1, 7, 0), 7)]:
            self.assert_error(UnknownNumber, [first], self.table.without, *numbers)


class Joined(Stays):
    def test_rows_of_both(self):
        other_rows = [(-1, 5, (2,)), (0, 3, (0, 1)), (3, 9, (0,))]
        other = Table(3, other_rows)
        for joined in (self.table | other, other | self.table):
            self.assert_same(joined.rows(), sorted([*ROWS, *other_rows]))
            self.assertEqual(joined.parts, 3)
            self.assert_same(joined.parts_of(3), (0, 1))
        self.assert_same(other.rows(), other_rows)

    def test_empty_tables(self):
        empty = Table(3, [])
        for joined in (self.table | empty, empty | self.table):
            self.assertTrue(joined == self.table)
        self.assertTrue(empty | empty == empty)

    def test_parts_differ(self):
        for parts in (1, 2, 4):
            for rows in ([], [(0, 1, (0,))]):
                other = Table(parts, rows)
                self.assert_error(PartsDiffer, [], lambda: self.table | other)
                self.assert_error(PartsDiffer, [], lambda: other | self.table)
                self.assertTrue(other == Table(parts, rows))

    def test_first_double_of_the_other_one(self):
        for other_rows, number in [
            ([(8, 1, (0,))], 1),
            ([(8, 1, (0,)), (9, 0, (0,)), (7, 8, (0,))], 1),
            ([(9, 1, (0,)), (8, 0, (0,)), (7, 8, (0,))], 0),
            ([(5, 4, (0,)), (5, 1, (0,)), (5, 0, (1,))], 0),
            (ROWS, 1),
        ]:
            other = Table(3, other_rows)
            self.assert_error(DuplicateNumber, [number], lambda: self.table | other)
            self.assert_same(other.rows(), sorted(other_rows))
        self.assert_error(DuplicateNumber, [1], lambda: self.table | self.table)

    def test_too_many(self):
        one, other = Table(2, rows_to(150)), Table(2, rows_to(150, 150))
        self.assertEqual(len(one | other), 300)
        one_more = Table(2, rows_to(151, 150))
        self.assert_error(TooMany, [300], lambda: one | one_more)
        self.assert_error(TooMany, [300], lambda: one_more | one)
        self.assert_error(DuplicateNumber, [149], lambda: one | Table(2, rows_to(160, 149)))
        self.assert_error(PartsDiffer, [], lambda: one | Table(3, rows_to(160, 149)))
        self.assertEqual((len(one), len(other), len(one_more)), (150, 150, 151))

    def test_something_else(self):
        for value in [None, 1, [], [(0, 9, (0,))], {}]:
            self.assertRaises(TypeError, lambda: self.table | value)
            self.assertRaises(TypeError, lambda: value | self.table)
