import itertools

from partfirsts.tables import Table
from helper import ODD_VALUES, Case

TIES = [
    (0, 9, (0, 2)), (-5, 4, (1,)), (0, 3, (2,)), (7, 0, (0, 1, 2)), (0, 5, (0,)), (-5, 8, (1, 2)), (7, 1000000000, (0,)),
]
SORTED_TIES = [
    (-5, 4, (1,)), (-5, 8, (1, 2)), (0, 3, (2,)), (0, 5, (0,)), (0, 9, (0, 2)), (7, 0, (0, 1, 2)), (7, 1000000000, (0,)),
]
ODD_NUMBERS = [*ODD_VALUES, -1, 1, 2, 6, 10 ** 9 + 1, 10 ** 29]


def many_tables():
    """Tables of up to three rows with all deals of small keys, with the rows that they were made of."""
    for many in range(4):
        for keys in itertools.product((1, 0), repeat=many):
            for lies in itertools.product([(0,), (1,), (0, 1)], repeat=many):
                rows = [(key, 5 - at, parts) for at, (key, parts) in enumerate(zip(keys, lies))]
                yield Table(2, rows), rows


class Readings(Case):
    def test_rows_are_ascending_by_place(self):
        for rows in itertools.permutations(TIES):
            if rows[0] < rows[1]:
                self.assert_same(Table(3, rows).rows(), SORTED_TIES)
        self.assert_same(Table(4, []).rows(), [])

    def test_places(self):
        places = [(-5, 4), (-5, 8), (0, 3), (0, 5), (0, 9), (7, 0), (7, 1000000000)]
        self.assert_same(Table(3, TIES).places(), places)
        self.assert_same(Table(1, []).places(), [])

    def test_part(self):
        table = Table(4, TIES)
        self.assert_same(table.part(0), [(0, 5), (0, 9), (7, 0), (7, 1000000000)])
        self.assert_same(table.part(1), [(-5, 4), (-5, 8), (7, 0)])
        self.assert_same(table.part(2), [(-5, 8), (0, 3), (0, 9), (7, 0)])
        self.assert_same(table.part(3), [])
        self.assert_same(table.part(index=3), [])

    def test_place_of_and_parts_of(self):
        table = Table(3, TIES)
        for key, number, parts in TIES:
            self.assert_same(table.place_of(number), (key, number))
            self.assert_same(table.parts_of(number), parts)
            self.assert_same(table.place_of(number=number), (key, number))
            self.assert_same(table.parts_of(number=number), parts)

    def test_parts(self):
        for parts in range(1, 5):
            self.assert_same(Table(parts, []).parts, parts)
            self.assert_same(Table(parts, [(0, 0, (0,))]).parts, parts)

    def test_plain(self):
        self.assert_same(Table(3, TIES).plain, False)
        self.assert_same(Table(2, []).plain, True)
        self.assert_same(Table(1, [(0, 0, (0,))]).plain, True)
        self.assert_same(Table(2, [(0, 0, (0,)), (0, 1, (1,))]).plain, True)
        self.assert_same(Table(2, [(0, 0, (0,)), (0, 1, (0, 1))]).plain, False)

    def test_in(self):
        table = Table(3, TIES)
        for number in (9, 4, 3, 0, 5, 8, 1000000000):
            self.assert_same(number in table, True)
        for value in ODD_NUMBERS:
            self.assert_same(value in table, False)
        self.assert_same(True in Table(1, [(0, 1, (0,))]), False)
        self.assert_same(False in Table(1, [(0, 0, (0,))]), False)

    def test_length(self):
        for many in range(6):
            self.assert_same(len(Table.alone(1, [(0, number) for number in range(many)])), many)
        self.assertEqual(len(Table(3, TIES)), 7)

    def test_always_true(self):
        self.assertIs(bool(Table(1, [])), True)
        self.assertIs(bool(Table(3, TIES)), True)

    def test_equality(self):
        table = Table(3, TIES)
        self.assertTrue(table == Table(3, list(reversed(TIES))))
        self.assertFalse(table != Table(3, tuple(TIES)))
        self.assertFalse(table == Table(4, TIES))
        self.assertFalse(table == Table(3, TIES[1:]))
        self.assertFalse(Table(1, []) == Table(2, []))
        self.assertTrue(Table(2, []) == Table(2, ()))

    def test_equality_of_many(self):
        tables = list(many_tables())
        for at, (one, rows) in enumerate(tables):
            for other_at, (other, other_rows) in enumerate(tables):
                self.assertIs(one == other, sorted(rows) == sorted(other_rows))
                self.assertIs(one != other, at != other_at)

    def test_a_table_equals_nothing_else(self):
        table = Table(1, [(0, 1, (0,))])
        for value in [*ODD_VALUES, table.rows(), (1, table.rows()), repr(table), 1, object()]:
            self.assertIs(table == value, False)
            self.assertIs(value == table, False)
            self.assertIs(table != value, True)

    def test_repr(self):
        self.assertEqual(repr(Table(3, TIES)), "Table(3 parts, 7 rows)")
        self.assertEqual(repr(Table(1, [(0, 1, (0,))])), "Table(1 parts, 1 rows)")
        self.assertEqual(repr(Table(2, [])), "Table(2 parts, 0 rows)")
        self.assertEqual(str(Table(2, [])), "Table(2 parts, 0 rows)")

    def test_class_values(self):
        self.assert_same((Table.MOST_PARTS, Table.MOST_ROWS), (4, 300))
        self.assert_same((Table(1, []).MOST_PARTS, Table(1, []).MOST_ROWS), (4, 300))

    def test_readings_of_many(self):
        for table, rows in many_tables():
            ordered = sorted(rows)
            self.assert_same(table.rows(), ordered)
            self.assert_same(table.places(), [row[:2] for row in ordered])
            self.assert_same(table.plain, all(len(row[2]) == 1 for row in rows))
            for part in (0, 1):
                self.assert_same(table.part(part), [row[:2] for row in ordered if part in row[2]])
            self.assertEqual([number for number in range(8) if number in table], sorted(row[1] for row in rows))


class Copies(Case):
    def test_what_is_passed_may_be_changed(self):
        rows = list(TIES)
        table = Table(3, rows)
        rows.reverse()
        rows.append((1, 1, (0,)))
        del rows[0]
        self.assert_same(table.rows(), SORTED_TIES)
        self.assertEqual((len(table), 1 in table), (7, False))

    def test_what_is_passed_is_not_changed(self):
        rows = list(TIES)
        Table(3, rows)
        self.assert_same(rows, TIES)
        places = [(3, 1), (2, 2), (1, 3)]
        dealt, alone = Table.dealt(2, places), Table.alone(2, places)
        self.assert_same(places, [(3, 1), (2, 2), (1, 3)])
        places.clear()
        self.assertEqual((len(dealt), len(alone)), (3, 3))

    def test_what_is_returned_may_be_changed(self):
        table = Table(3, TIES)
        for read in (table.rows, table.places, lambda: table.part(0)):
            first = read()
            again = read()
            first.append(None)
            first[0] = None
            self.assert_same(read(), again)
            again.clear()
            self.assertTrue(read())
        self.assert_same(table.rows(), SORTED_TIES)
        self.assert_same(table, Table(3, TIES))

    def test_properties_cannot_be_assigned(self):
        table = Table(3, TIES)
        for name in ("parts", "plain"):
            self.assertRaises(AttributeError, setattr, table, name, 1)
        self.assert_same((table.parts, table.plain), (3, False))
