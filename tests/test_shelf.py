"""Shelves: their commands and errors, and what they tell of their entries."""

from partfirsts.errors import (
    DuplicateName, Full, InvalidCommand, InvalidLimit, InvalidName, InvalidPart, InvalidText, UnknownName, UnknownNumber,
)
from partfirsts.notation import read_reader, read_table, reader_text, table_text
from partfirsts.readers import Reader
from partfirsts.shelf import Shelf
from partfirsts.tables import Table
from helper import ODD_VALUES, Case

EXACT = reader_text(Reader.exact(2, 2))
KEY = "reader key up number\nstate 1 0 0 1 1\n"
ROWS = "table 2\nrow 0 1 0\nrow 0 2 0 1\nrow 3 7 1\n"
EMPTY = "table 2\n"
NO_NAMES = [value for value in [*ODD_VALUES, 0, "A", "a1", "a b", "abcdefghi", "a\n", " a", ("a",)] if value != "a"]
NO_COMMANDS = [
    *ODD_VALUES, 0, "drop", ["drop", "a"], ("drop",), ("drop", "a", "b"), ("reader", "a"), ("reader", "a", KEY, 1),
    ("table", "a"), ("table",), ("put", "a"), ("put", "a", KEY, 0), ("deal", "a", 1), ("deal", "a", 1, 0, 0), ("deal",),
    ("Drop", "a"), ("drop ", "a"), ("", "a"), (None, "a"), (True, "a"), (0, "a"), (("drop",), "a"), (["drop"], "a"),
    ("undo",), ("names",), ("move", "a", 1, 0), ("readers", "a", KEY), (("drop", "a"),), ("drop", "a") * 2,
]


def some_shelf(**more):
    shelf = Shelf(**more)
    shelf.apply(("reader", "exact", EXACT), ("reader", "key", KEY), ("table", "rows", ROWS), ("table", "empty", EMPTY))
    return shelf


def entry_of(shelf, name):
    try:
        return shelf.reader_of(name)
    except UnknownName:
        return shelf.table_of(name)


def told_by(shelf):
    """All that can be asked of a shelf without a change."""
    entries = [entry_of(shelf, name) for name in shelf.names()]
    texts = [reader_text(entry) if isinstance(entry, Reader) else table_text(entry) for entry in entries]
    return [shelf.names(), texts, shelf.history(), shelf.kept(), shelf.computed, shelf.limit, shelf.busy, len(shelf)]


class ShelfCase(Case):
    def refused(self, shelf, kind, values, *commands):
        """The call raises this error, and nothing is done."""
        before = told_by(shelf)
        self.assert_error(kind, values, shelf.apply, *commands)
        self.assert_same(told_by(shelf), before)


class Entries(ShelfCase):
    def test_a_new_shelf(self):
        shelf = Shelf()
        self.assert_same((shelf.names(), shelf.kept(), shelf.history(), shelf.computed, shelf.busy, len(shelf)), (
            [], [], (0, 0), 0, False, 0,
        ))
        self.assert_same((bool(shelf), repr(shelf), shelf.limit, Shelf.MOST), (True, "Shelf(0 entries)", 8, 20))

    def test_readers_and_tables(self):
        shelf = some_shelf()
        self.assert_same((shelf.names(), len(shelf), repr(shelf)), (
            ["empty", "exact", "key", "rows"], 4, "Shelf(4 entries)",
        ))
        self.assertEqual((shelf.reader_of("exact"), shelf.reader_of(name="key")), (Reader.exact(2, 2), read_reader(KEY)))
        self.assertEqual((shelf.table_of("rows"), shelf.table_of(name="empty")), (read_table(ROWS), Table(2, [])))
        self.assert_same((bool(shelf), shelf.busy, shelf.history()), (True, False, (1, 0)))
        shelf.names().clear()
        self.assertEqual(len(shelf.names()), 4)

    def test_names_of_no_entry_or_of_the_other_kind(self):
        shelf = some_shelf()
        for value in [*NO_NAMES, "a", "rowss", "none"]:
            self.assert_error(UnknownName, [value], shelf.reader_of, value)
            self.assert_error(UnknownName, [value], shelf.table_of, value)
            self.assert_error(UnknownName, [value], shelf.word, value)
        for value in ("rows", "empty"):
            self.assert_error(UnknownName, [value], shelf.reader_of, value)
            self.assert_error(UnknownName, [value], shelf.word, value)
        for value in ("exact", "key"):
            self.assert_error(UnknownName, [value], shelf.table_of, value)

    def test_names_in_the_shelf(self):
        shelf = some_shelf()
        for value in [*NO_NAMES, "a", "rowss", shelf, Reader.exact(2, 2)]:
            self.assert_same(value in shelf, False)
        for value in shelf.names():
            self.assert_same(value in shelf, True)

    def test_equality(self):
        shelf, other = some_shelf(), Shelf(limit=20)
        self.assert_same((shelf == other, shelf != other, Shelf() == other), (False, True, True))
        for command in [
            ("table", "empty", EMPTY), ("table", "rows", ROWS), ("reader", "key", KEY), ("reader", "exact", EXACT),
        ]:
            self.assert_same(shelf == other, False)
            other.apply(command)
        self.assert_same((shelf == other, shelf != other), (True, False))
        other.word("key")
        other.apply()
        self.assert_same(shelf == other, True)
        for command in [
            ("put", "key", EXACT), ("put", "rows", EMPTY), ("deal", "rows", 1, 1), ("drop", "key"), ("table", "more", EMPTY),
        ]:
            other.apply(command)
            self.assert_same((shelf == other, other == shelf), (False, False))
            other.undo()
            self.assert_same((shelf == other, other == shelf), (True, True))

    def test_a_reader_and_a_table_of_one_name_are_unlike(self):
        one, other = Shelf(), Shelf()
        one.apply(("reader", "a", KEY))
        other.apply(("table", "a", EMPTY))
        self.assert_same((one == other, other == one), (False, False))

    def test_a_shelf_equals_nothing_else(self):
        shelf = Shelf()
        for value in [*ODD_VALUES, 0, {}, [], (), "Shelf(0 entries)", Table(1, []), Reader.exact(1, 1)]:
            self.assert_same((shelf == value, shelf != value), (False, True))


class Commands(ShelfCase):
    def test_put(self):
        shelf = some_shelf()
        self.assertIsNone(shelf.apply(("put", "exact", KEY), ("put", "rows", EMPTY)))
        self.assertEqual((shelf.reader_of("exact"), shelf.table_of("rows")), (read_reader(KEY), Table(2, [])))
        self.assertEqual(len(shelf), 4)

    def test_drop(self):
        shelf = some_shelf()
        shelf.apply(("drop", "exact"))
        shelf.apply(("drop", "rows"))
        self.assert_same(shelf.names(), ["empty", "key"])
        self.refused(shelf, UnknownName, ["rows"], ("drop", "rows"))

    def test_deal(self):
        shelf = some_shelf()
        shelf.apply(("deal", "rows", 2, 0), ("deal", "rows", 7, 0), ("deal", "rows", 1, 0))
        self.assert_same(shelf.table_of("rows").rows(), [(0, 1, (0,)), (0, 2, (0,)), (3, 7, (0,))])
        shelf.apply(("deal", "rows", 2, 1))
        self.assert_same(shelf.table_of("rows").parts_of(2), (1,))

    def test_commands_in_their_order(self):
        shelf = Shelf(limit=1)
        shelf.apply(
            ("table", "a", ROWS), ("deal", "a", 1, 1), ("drop", "a"), ("reader", "a", KEY), ("put", "a", EXACT),
            ("drop", "a"), ("reader", "b", KEY),
        )
        self.assert_same((shelf.names(), shelf.history()), (["b"], (1, 0)))

    def test_names_that_are_none(self):
        shelf = some_shelf(limit=4)
        for value in NO_NAMES:
            for word in ("reader", "table"):
                self.refused(shelf, InvalidName, [value], (word, value, None))
            self.refused(shelf, UnknownName, [value], ("put", value, None))
            self.refused(shelf, UnknownName, [value], ("drop", value))
            self.refused(shelf, UnknownName, [value], ("deal", value, None, None))

    def test_adding(self):
        shelf = some_shelf(limit=4)
        for word, other in [("reader", "rows"), ("table", "exact"), ("reader", "exact"), ("table", "rows")]:
            self.refused(shelf, DuplicateName, [other], (word, other, None))
        for word in ("reader", "table"):
            self.refused(shelf, Full, [4], (word, "more", None))
            self.refused(shelf, Full, [4], ("deal", "rows", 1, 1), (word, "abcdefgh", EXACT))
        shelf.limit = 5
        for value in [*ODD_VALUES, 0, "x\n", EXACT + "x"]:
            if not isinstance(value, str):
                self.refused(shelf, InvalidText, [0], ("reader", "more", value))
                self.refused(shelf, InvalidText, [0], ("table", "more", value))
        self.refused(shelf, InvalidText, [2], ("reader", "more", EXACT + "x"))
        self.refused(shelf, InvalidText, [2], ("table", "more", ROWS.replace(" 2 ", " 1 ")))
        self.refused(shelf, InvalidText, [0], ("reader", "more", ROWS))
        self.refused(shelf, InvalidText, [0], ("table", "more", EXACT))
        self.refused(shelf, Full, [5], ("reader", "more", EXACT), ("reader", "again", EXACT))
        shelf.apply(("reader", "more", EXACT))
        self.refused(shelf, Full, [5], ("table", "again", EMPTY))

    def test_putting(self):
        shelf = some_shelf(limit=4)
        self.refused(shelf, UnknownName, ["more"], ("put", "more", None))
        for name in shelf.names():
            for value in [*ODD_VALUES, 0, ""]:
                self.refused(shelf, InvalidText, [0], ("put", name, value))
        self.refused(shelf, InvalidText, [0], ("put", "exact", ROWS))
        self.refused(shelf, InvalidText, [0], ("put", "rows", EXACT))
        self.refused(shelf, InvalidText, [2], ("put", "key", EXACT + "x"))
        self.refused(shelf, InvalidText, [4], ("put", "empty", ROWS + "x"))

    def test_dealing(self):
        shelf = some_shelf()
        for name in ("exact", "key", "more"):
            self.refused(shelf, UnknownName, [name], ("deal", name, None, None))
        for value in [*ODD_VALUES, 0, 3, -1, 10 ** 29]:
            self.refused(shelf, UnknownNumber, [value], ("deal", "rows", value, None))
            self.refused(shelf, UnknownNumber, [value], ("deal", "empty", value, 0))
        for value in [*ODD_VALUES, 2, -1, 10 ** 29, (0, 1)]:
            self.refused(shelf, InvalidPart, [value], ("deal", "rows", 1, value))

    def test_all_or_nothing(self):
        shelf = some_shelf()
        shelf.word("key")
        shelf.apply(("drop", "empty"))
        shelf.undo()
        good = [("drop", "exact"), ("put", "key", EXACT), ("deal", "rows", 1, 1), ("table", "more", ROWS)]
        for at in range(5):
            commands = good[:at] + [("drop", "none")] + good[at:]
            self.refused(shelf, UnknownName, ["none"], *commands)
            commands = good[:at] + [("reader", "new", "x")] + good[at:]
            self.refused(shelf, InvalidText, [0], *commands)
        shelf.apply(*good)
        self.assert_same((shelf.names(), shelf.history()), (["empty", "key", "more", "rows"], (2, 0)))

    def test_the_first_error_counts(self):
        shelf = some_shelf()
        self.refused(shelf, UnknownName, ["x"], ("drop", "x"), ("reader", "A", KEY))
        self.refused(shelf, InvalidName, ["A"], ("reader", "A", KEY), ("drop", "x"))
        self.refused(shelf, UnknownName, ["exact"], ("drop", "exact"), ("drop", "exact"), ("drop", "x"))


class NoCommands(ShelfCase):
    def test_no_commands(self):
        shelf = some_shelf()
        for value in NO_COMMANDS:
            self.refused(shelf, InvalidCommand, [0], value)
            self.refused(shelf, InvalidCommand, [1], ("drop", "exact"), value, None)

    def test_ahead_of_all_other_errors(self):
        shelf = some_shelf()
        wrong = [("drop", "none"), ("reader", "A", None), ("table", "exact", ""), ("deal", "rows", 9, 9)]
        for value in NO_COMMANDS:
            self.refused(shelf, InvalidCommand, [4], *wrong, value, value)
        for at in range(4):
            self.refused(shelf, InvalidCommand, [at], *wrong[:at], ("drop",), *wrong[at:])

    def test_values_in_commands_are_looked_at_behind(self):
        shelf = some_shelf()
        self.refused(shelf, InvalidName, [["a"]], ("reader", ["a"], ["b"]))
        self.refused(shelf, UnknownName, [[1, [2]]], ("deal", [1, [2]], None, None))
        self.refused(shelf, UnknownNumber, [[1]], ("deal", "rows", [1], [0]))


class Limits(ShelfCase):
    def test_constructor(self):
        for limit in range(1, 21):
            self.assert_same(Shelf(limit=limit).limit, limit)
        for value in [*ODD_VALUES, 0, 21, -1, 10 ** 29]:
            self.assert_error(InvalidLimit, [value], Shelf, limit=value)
        self.assertRaises(TypeError, Shelf, 8)

    def test_assigned(self):
        shelf = some_shelf()
        for limit in range(4, 21):
            shelf.limit = limit
            self.assert_same(shelf.limit, limit)
            self.assertIsNone(shelf.set_limit(value=24 - limit))
            self.assert_same(shelf.limit, 24 - limit)
        self.assert_same(shelf.history(), (1, 0))

    def test_refused(self):
        shelf = some_shelf()
        before = told_by(shelf)
        for value in [*ODD_VALUES, 0, 1, 2, 3, 21, -1, 10 ** 29]:
            self.assert_error(InvalidLimit, [value], shelf.set_limit, value)
            self.assert_error(InvalidLimit, [value], setattr, shelf, "limit", value)
            self.assert_same(told_by(shelf), before)
        shelf.apply(("drop", "key"))
        self.assert_error(InvalidLimit, [2], shelf.set_limit, 2)
        shelf.limit = 3
        self.refused(shelf, Full, [3], ("table", "more", EMPTY))

    def test_as_many_entries_as_the_limit(self):
        for limit in range(1, 21):
            shelf = Shelf(limit=limit)
            names = [chr(97 + at) for at in range(limit)]
            shelf.apply(*[("table", name, EMPTY) for name in names])
            self.refused(shelf, Full, [limit], ("table", "z", EMPTY))
            self.refused(shelf, Full, [limit], ("reader", "z", None))
            self.assert_same(shelf.names(), names)

    def test_the_limit_is_no_part_of_the_steps(self):
        shelf = some_shelf()
        shelf.apply(("drop", "key"), ("drop", "rows"), ("drop", "empty"))
        shelf.limit = 1
        shelf.undo()
        self.assert_same((len(shelf), shelf.limit, shelf.history()), (4, 1, (1, 1)))
        self.refused(shelf, Full, [1], ("reader", "more", KEY))
        self.refused(shelf, Full, [1], ("drop", "key"), ("reader", "more", KEY))
        for value in (1, 2, 3):
            self.assert_error(InvalidLimit, [value], shelf.set_limit, value)
        shelf.redo()
        self.assert_same((shelf.names(), shelf.limit), (["exact"], 1))
        shelf.undo()
        shelf.undo()
        self.assert_same((len(shelf), shelf.limit), (0, 1))
        shelf.redo()
        shelf.limit = 4
        self.assert_same((len(shelf), shelf.limit, shelf.history()), (4, 4, (1, 1)))
        shelf.apply(("drop", "key"), ("reader", "more", KEY))
        self.assert_same(shelf.names(), ["empty", "exact", "more", "rows"])
