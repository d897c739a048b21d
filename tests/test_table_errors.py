from partfirsts.errors import DuplicateNumber, InvalidPart, InvalidRow, TooMany, UnknownNumber
from partfirsts.tables import Table
from helper import ODD_VALUES, Case

NO_COUNTS = [*ODD_VALUES, 0, 5, -1, 10 ** 29]
GOOD = (0, 1, (0,))
NO_ROWS = [
    *ODD_VALUES, 0, 5,
    [0, 2, (0,)], (0, 2), (0, 2, (0,), 0), (0, 2, [0]), (0, 2, 0), (0, 2, None), (0, 2, "0"), (0, 2, ()),
    (1000000001, 2, (0,)), (-1000000001, 2, (0,)), (True, 2, (0,)), (None, 2, (0,)), ("0", 2, (0,)), ((0,), 2, (0,)),
    (0, -1, (0,)), (0, 1000000001, (0,)), (0, True, (0,)), (0, False, (0,)), (0, None, (0,)), (0, "2", (0,)),
    (0, 2, (3,)), (0, 2, (-1,)), (0, 2, (0, 3)), (0, 2, (1, 0)), (0, 2, (1, 1)), (0, 2, (0, 2, 1)), (0, 2, (0, 1, 1)),
    (0, 2, (False,)), (0, 2, (0, True)), (0, 2, (None,)), (0, 2, ("0",)), (0, 2, ((0,),)), (0, 2, (0, 1, 2, 3)),
]
GOOD_ROWS = [
    (1000000000, 0, (0,)), (-1000000000, 2, (2,)), (0, 1000000000, (0, 1, 2)), (5, 3, (0, 2)), (5, 4, (1, 2)),
]
NO_PLACES = [
    *ODD_VALUES[:13], 0, [0, 2], (0,), (0, 2, (0,)), (0, 2, 3), (True, 2), (0, True), (0, -1), (None, 2), (0, None),
    (1000000001, 2), (-1000000001, 2), (0, 1000000001),
]


def rows_to(many):
    return [(number // 7, number, (number % 2,)) for number in range(many)]


class ConstructorErrors(Case):
    def test_number_of_parts(self):
        for value in NO_COUNTS:
            self.assert_error(InvalidPart, [value], Table, value, [])
        for parts in (1, 2, 3, 4):
            self.assertEqual(Table(parts, []).parts, parts)

    def test_one_wrong_row(self):
        for value in NO_ROWS:
            for ahead in range(3):
                rows = [(0, 10 + number, (0,)) for number in range(ahead)]
                self.assert_error(InvalidRow, [ahead], Table, 3, [*rows, value, GOOD])
                self.assert_error(InvalidRow, [ahead], Table, 3, (*rows, value))

    def test_two_wrong_rows(self):
        for value in NO_ROWS:
            for other in NO_ROWS:
                self.assert_error(InvalidRow, [1], Table, 3, [GOOD, value, (0, 7, (1,)), other])

    def test_good_rows(self):
        for row in GOOD_ROWS:
            self.assert_same(Table(3, [GOOD, row]).rows(), sorted([GOOD, row]))
        self.assertEqual(len(Table(3, GOOD_ROWS)), 5)
        self.assertEqual(len(Table(parts=4, rows=tuple(GOOD_ROWS))), 5)

    def test_rows_of_each_number_of_parts(self):
        for parts in range(1, 5):
            for part in range(-1, 6):
                if 0 <= part < parts:
                    self.assert_same(Table(parts, [(0, 1, (part,))]).parts_of(1), (part,))
                else:
                    self.assert_error(InvalidRow, [0], Table, parts, [(0, 1, (part,))])

    def test_doubles(self):
        for rows, number in [
            ([(0, 1, (0,)), (0, 1, (0,))], 1),
            ([(0, 1, (0,)), (5, 1, (1,))], 1),
            ([(0, 3, (0,)), (0, 1, (0,)), (4, 1, (0,)), (4, 3, (0,))], 1),
            ([(0, 3, (0,)), (0, 1, (0,)), (4, 3, (0,)), (4, 1, (0,))], 3),
            ([(0, 0, (0,)), (0, 2, (0,)), (-1, 0, (1,)), (-2, 0, (1,))], 0),
        ]:
            self.assert_error(DuplicateNumber, [number], Table, 2, rows)

    def test_numbers_of_rows(self):
        for many in (299, 300):
            self.assertEqual(len(Table(2, rows_to(many))), many)
        for many in (301, 302, 400):
            self.assert_error(TooMany, [300], Table, 2, rows_to(many))
            self.assert_error(TooMany, [300], Table, 2, tuple(rows_to(many)))

    def test_order_of_errors(self):
        wrong_row = [0, 2, (0,)]
        double = (9, 1, (0,))
        many = rows_to(301)
        self.assert_error(InvalidPart, [True], Table, True, [wrong_row, *many, double])
        self.assert_error(InvalidRow, [302], Table, 2, [*many, double, wrong_row])
        self.assert_error(InvalidRow, [2], Table, 2, [GOOD, double, wrong_row])
        self.assert_error(InvalidRow, [301], Table, 2, [*many, wrong_row])
        self.assert_error(DuplicateNumber, [1], Table, 2, [*many, double])
        self.assert_error(DuplicateNumber, [1], Table, 2, [*rows_to(300), double])


class ReadingErrors(Case):
    def test_part(self):
        for parts in range(1, 5):
            table = Table(parts, [(0, 1, (0,))])
            for value in [*ODD_VALUES, -1, parts, parts + 1, 10 ** 29]:
                self.assert_error(InvalidPart, [value], table.part, value)
            for part in range(parts):
                self.assert_same(table.part(part), [(0, 1)] if part == 0 else [])

    def test_place_of_and_parts_of(self):
        table = Table(2, [(0, 1, (0,)), (0, 0, (1,)), (4, 1000000000, (0, 1))])
        for value in [*ODD_VALUES, -1, 2, 4, 999999999, 1000000001, 10 ** 29]:
            self.assert_error(UnknownNumber, [value], table.place_of, value)
            self.assert_error(UnknownNumber, [value], table.parts_of, value)
            self.assertIs(value in table, False)
        self.assert_error(UnknownNumber, [0], Table(1, []).place_of, 0)
        self.assert_error(UnknownNumber, [0], Table(1, []).parts_of, 0)


class Dealt(Case):
    def test_parts_by_index(self):
        places = [(5, 1), (4, 2), (4, 0), (9, 7), (0, 3)]
        for parts in range(1, 5):
            rows = [(key, number, (at % parts,)) for at, (key, number) in enumerate(places)]
            self.assert_same(Table.dealt(parts, places).rows(), sorted(rows))
            self.assert_same(Table.dealt(parts=parts, places=tuple(places)), Table(parts, rows))
        self.assert_same(Table.dealt(3, []), Table(3, []))

    def test_errors(self):
        for value in NO_COUNTS:
            self.assert_error(InvalidPart, [value], Table.dealt, value, [(0, 1)])
            self.assert_error(InvalidPart, [value], Table.dealt, value, [(0, 1), None, (0, 1)])
        for value in NO_PLACES:
            self.assert_error(InvalidRow, [0], Table.dealt, 2, [value, (0, 1), (0, 1), None])
            self.assert_error(InvalidRow, [2], Table.dealt, 2, [(0, 1), (0, 1), value])
        self.assert_error(DuplicateNumber, [1], Table.dealt, 3, [(0, 2), (0, 1), (3, 1), (4, 2)])

    def test_numbers_of_rows(self):
        places = [row[:2] for row in rows_to(302)]
        self.assertEqual(len(Table.dealt(4, places[:300])), 300)
        self.assert_error(TooMany, [300], Table.dealt, 4, places[:301])
        self.assert_error(DuplicateNumber, [0], Table.dealt, 4, [*places, (99, 0)])


class Alone(Case):
    def test_default_part(self):
        places = [(5, 1), (4, 2), (4, 0)]
        for parts in range(1, 5):
            rows = [(4, 0, (0,)), (4, 2, (0,)), (5, 1, (0,))]
            self.assert_same(Table.alone(parts, places).rows(), rows)
            self.assertEqual(Table.alone(parts, places).parts, parts)

    def test_each_part(self):
        for parts in range(1, 5):
            for part in range(parts):
                self.assert_same(Table.alone(parts, ((5, 1), (4, 2)), part=part).part(part), [(4, 2), (5, 1)])
                self.assert_same(Table.alone(parts, [], part=part), Table(parts, []))

    def test_part_is_keyword_only(self):
        self.assertRaises(TypeError, Table.alone, 2, [(0, 1)], 1)

    def test_errors(self):
        for value in NO_COUNTS:
            self.assert_error(InvalidPart, [value], Table.alone, value, [(0, 1), None], part=0)
            self.assert_error(InvalidPart, [value], Table.alone, value, [(0, 1)], part=7)
        for value in [*ODD_VALUES, -1, 2, 3, 10 ** 29]:
            self.assert_error(InvalidPart, [value], Table.alone, 2, [(0, 1), None], part=value)
            self.assert_error(InvalidPart, [value], Table.alone, 2, [], part=value)
        for value in NO_PLACES:
            self.assert_error(InvalidRow, [0], Table.alone, 2, [value, (0, 1), (0, 1), None])
            self.assert_error(InvalidRow, [2], Table.alone, 2, [(0, 1), (0, 1), value], part=1)
        self.assert_error(DuplicateNumber, [1], Table.alone, 3, [(0, 2), (0, 1), (3, 1), (4, 2)])

    def test_numbers_of_rows(self):
        places = [row[:2] for row in rows_to(302)]
        self.assertEqual(len(Table.alone(4, places[:300], part=3)), 300)
        self.assert_error(TooMany, [300], Table.alone, 4, places[:301])
        self.assert_error(DuplicateNumber, [0], Table.alone, 4, [*places, (99, 0)])
