import random

from partfirsts.asking import least_asks
from partfirsts.desk import Desk
from partfirsts.faults import KINDS, possible
from partfirsts.notation import reader_text, table_text
from partfirsts.readers import Reader
from partfirsts.runs import judge
from partfirsts.shelf import Shelf
from partfirsts.tables import Table
from helper import Case
from model import readers_on_tables, whole_readers
from test_shelf import EMPTY, EXACT, KEY, ROWS, some_shelf, told_by

LATE = "reader row up number\nstate 2 0 - 1 1\n"
THREE = "reader row up number\nstate 1 0 - 1 1 1\n"
TIES = "table 2\nrow 0 1 0\nrow 0 2 0\nrow 1 3 1\n"
# Lines of forms that no desk knows.
UNKNOWN = [
    "", " ", "  ", "\n", "help", "Names", "NAMES", "names ", " names", "names names", "names a", "name", "names\n",
    "undo 1", "undo ", " undo", "redo redo", "Undo", "undone", "redo  ",
    "drop", "drop ", " drop key", "drop  key", "drop key ", "drop key exact", "Drop key", "drops key",
    "word", "word ", "word key exact", "word  key", "word key ",
    "kinds", "kinds ", "kinds key exact", "kinds  key", "kind key",
    "play", "play key", "play key rows rows", "play  key rows", "play key  rows", "play key rows ", "play key ", "play  ",
    "needs", "needs key", "needs key 1 1", "needs  1", "needs key ", "needs key  1", "needs key 1 ",
    "deal", "deal rows", "deal rows 1", "deal rows 1 1 1", "deal  1 1", "deal rows  1", "deal rows 1 ", "deal rows 1 1 ",
    "reader a", "table a", "put key x", "apply", "limit 3", "history", "twin", "say names", "drop\tkey",
]
# Words that are no numbers of a line.
NO_NUMBERS = [
    "-1", "-0", "+1", "01", "00", "1.0", "a", "-", "1e3", "1,0", "1_0", "1000000000", "1" * 30, "0" * 9, "one", "1\n", "\u0661",
]


def some_desk():
    shelf = some_shelf(limit=20)
    shelf.apply(("reader", "late", LATE), ("reader", "three", THREE), ("table", "ties", TIES))
    return Desk(shelf)


class DeskCase(Case):
    def check(self, desk, *talk):
        """Each line is answered so, in this order."""
        for line, answer in talk:
            many = len(desk)
            self.assert_same(desk.say(line), answer)
            self.assert_same((desk.log()[many:], len(desk)), ([(line, answer)], many + 1))

    def unchanged(self, desk, line, answer):
        before = told_by(desk.shelf)
        self.check(desk, (line, answer))
        self.assert_same(told_by(desk.shelf), before)


class Answers(DeskCase):
    def test_drop_and_deal(self):
        desk = some_desk()
        self.check(desk, ("drop key", "done"), ("drop rows", "done"), ("deal ties 3 0", "done"), ("deal ties 1 1", "done"))
        self.assert_same(desk.shelf.names(), ["empty", "exact", "late", "three", "ties"])
        self.assert_same(desk.shelf.table_of("ties").rows(), [(0, 1, (1,)), (0, 2, (0,)), (1, 3, (0,))])
        self.assert_same(desk.shelf.history(), (6, 0))

    def test_undo_and_redo(self):
        desk = some_desk()
        self.check(
            desk, ("redo", "error NothingLeft"), ("drop key", "done"), ("undo", "done"), ("redo", "done"), ("undo", "done"),
            ("undo", "done"), ("undo", "done"), ("undo", "error NothingLeft"), ("names", "none"), ("redo", "done"),
            ("names", "empty exact key rows"), ("redo", "done"), ("redo", "done"), ("redo", "error NothingLeft"),
            ("names", "empty exact late rows three ties"),
        )

    def test_names(self):
        desk = Desk(Shelf())
        self.unchanged(desk, "names", "none")
        desk.shelf.apply(("table", "b", EMPTY))
        self.unchanged(desk, "names", "b")
        desk.shelf.apply(("reader", "a", KEY), ("reader", "abcdefgh", EXACT), ("reader", "c", EXACT))
        self.unchanged(desk, "names", "a abcdefgh b c")

    def test_word(self):
        desk = some_desk()
        self.check(desk, ("word exact", "right"), ("word key", "wrong"), ("word late", "wrong"), ("word exact", "right"))
        self.assert_same((desk.shelf.kept(), desk.shelf.computed), (["exact", "key", "late"], 3))
        self.check(desk, ("drop key", "done"), ("undo", "done"))
        self.assert_same((desk.shelf.kept(), desk.shelf.computed), (["exact", "late"], 3))
        desk.shelf.word("key")
        self.check(desk, ("word key", "wrong"), ("word three", "right"))
        self.assert_same((desk.shelf.kept(), desk.shelf.computed), (["exact", "key", "late", "three"], 5))

    def test_kinds(self):
        desk = some_desk()
        self.unchanged(desk, "kinds exact", "none")
        self.unchanged(desk, "kinds key", "lost")
        self.unchanged(desk, "kinds late", "late left lost")
        for reader in whole_readers(141, 3):
            desk.shelf.apply(("put", "exact", reader_text(reader)))
            kinds = [kind for kind in KINDS if possible(reader, kind)]
            self.unchanged(desk, "kinds exact", " ".join(kinds) or "none")

    def test_play(self):
        desk = some_desk()
        self.unchanged(desk, "play exact ties", "right")
        self.unchanged(desk, "play late ties", "late 2")
        self.unchanged(desk, "play key ties", "lost 2")
        self.unchanged(desk, "play exact empty", "right")
        self.unchanged(desk, "play key empty", "right")
        desk.shelf.apply(("reader", "from", "reader from up number\nstate 2 0 0 2 2\n"))
        self.unchanged(desk, "play from ties", "twice 1")
        desk.shelf.apply(("put", "from", "reader from up number\nstate 2 - 0 2 2\n"))
        self.unchanged(desk, "play from ties", "left 3")

    def test_play_behind_a_deal(self):
        desk = some_desk()
        self.check(
            desk, ("play late ties", "late 2"), ("deal ties 2 1", "done"), ("play late ties", "right"), ("undo", "done"),
            ("play late ties", "late 2"), ("redo", "done"), ("play late ties", "right"), ("play exact ties", "right"),
        )

    def test_play_at_random(self):
        for reader, table, _ in readers_on_tables(142, 3):
            shelf = Shelf()
            shelf.apply(("reader", "a", reader_text(reader)), ("table", "b", table_text(table)))
            kind, number, _ = judge(reader, table)
            self.unchanged(Desk(shelf), "play a b", "right" if kind == "right" else f"{kind} {number}")

    def test_needs(self):
        desk = some_desk()
        self.unchanged(desk, "needs exact 1", "none")
        self.unchanged(desk, "needs exact 2", "2,2")
        self.unchanged(desk, "needs late 6", "2,2")
        self.unchanged(desk, "needs key 6", "none")
        self.unchanged(desk, "needs three 6", "1,1,1")
        desk.shelf.apply(("put", "late", "reader row up number\nstate 4 0 0 9\n"))
        self.unchanged(desk, "needs late 3", "1")
        for reader in whole_readers(143, 3):
            desk.shelf.apply(("put", "exact", reader_text(reader)))
            found = [",".join(map(str, asks)) for asks in least_asks(reader, most=3)]
            self.unchanged(desk, "needs exact 3", " ".join(found) or "none")


class Errors(DeskCase):
    def test_names_that_are_not_there(self):
        desk = some_desk()
        for name in ["a", "rowss", "Rows", "1", "abcdefghi", "-", "rows\n", "key,exact"]:
            for line in [f"drop {name}", f"word {name}", f"kinds {name}", f"play {name} rows", f"play exact {name}"]:
                self.unchanged(desk, line, "error UnknownName")
            for line in [f"deal {name} 1 1", f"deal {name} 9 9", f"needs {name} 1", f"needs {name} 0", f"needs {name} 7"]:
                self.unchanged(desk, line, "error UnknownName")
            self.unchanged(desk, f"play {name} {name}", "error UnknownName")

    def test_entries_of_the_wrong_kind(self):
        desk = some_desk()
        for line in [
            "word rows", "kinds rows", "play rows rows", "play exact late", "play rows exact", "needs rows 2", "needs rows 9",
            "deal exact 1 1", "deal exact 99 99", "play three exact",
        ]:
            self.unchanged(desk, line, "error UnknownName")

    def test_numbers_and_parts_of_deal(self):
        desk = some_desk()
        for line in ["deal ties 0 0", "deal ties 4 0", "deal ties 4 9", "deal empty 1 9", "deal ties 999999999 999999999"]:
            self.unchanged(desk, line, "error UnknownNumber")
        for part in (2, 3, 9, 10, 999999999):
            self.unchanged(desk, f"deal ties 1 {part}", "error InvalidPart")

    def test_numbers_of_needs(self):
        desk = some_desk()
        for most in (0, 7, 8, 10, 999999999):
            self.unchanged(desk, f"needs exact {most}", "error InvalidNumber")
            self.unchanged(desk, f"needs key {most}", "error InvalidNumber")

    def test_parts_that_differ(self):
        desk = some_desk()
        self.unchanged(desk, "play three ties", "error PartsDiffer")
        self.unchanged(desk, "play three none", "error UnknownName")
        self.check(desk, ("deal ties 1 1", "done"), ("play three ties", "error PartsDiffer"), ("drop ties", "done"))
        self.unchanged(desk, "play three ties", "error UnknownName")

    def test_errors_are_no_steps(self):
        desk = some_desk()
        self.check(
            desk, ("drop key", "done"), ("undo", "done"), ("drop none", "error UnknownName"),
            ("deal ties 9 0", "error UnknownNumber"), ("deal ties 1 7", "error InvalidPart"), ("redo", "done"),
        )


class Unknown(DeskCase):
    def test_lines_of_other_forms(self):
        desk = some_desk()
        for line in UNKNOWN:
            self.unchanged(desk, line, "unknown")
        self.assertEqual(len(desk), len(UNKNOWN))

    def test_numbers_that_are_none(self):
        desk = some_desk()
        for word in NO_NUMBERS:
            for line in [f"deal ties {word} 1", f"deal ties 1 {word}", f"needs exact {word}"]:
                self.unchanged(desk, line, "unknown")
            # Such a line is none of a desk, whatever its names are.
            for line in [f"deal none {word} 1", f"deal none 1 {word}", f"needs none {word}"]:
                self.unchanged(desk, line, "unknown")
        self.unchanged(desk, "deal ties 999999999 0", "error UnknownNumber")
        self.unchanged(desk, "deal ties 1000000000 0", "unknown")

    def test_what_can_be_made_again_stays(self):
        desk = some_desk()
        self.check(desk, ("drop key", "done"), ("undo", "done"), ("drop", "unknown"), ("deal ties 01 1", "unknown"))
        self.check(desk, ("redo", "done"), ("names", "empty exact late rows three ties"))


class Desks(DeskCase):
    def test_said_or_called(self):
        lines = ["names", "word late", "deal ties 2 1", "play late ties", "undo", "undo ", "needs exact 9", "drop none", "redo"]
        one, other = some_desk(), some_desk()
        for line in lines:
            self.assert_same(one.say(line=line), other(line))
        self.assert_same(one.log(), other.log())
        self.assert_same(other(line="names"), one("names"))

    def test_the_log(self):
        desk = Desk(Shelf())
        self.assert_same((desk.log(), len(desk), bool(desk), repr(desk)), ([], 0, True, "Desk(0 lines)"))
        talk = [("names", "none"), ("x", "unknown"), ("undo", "error NothingLeft"), ("names", "none")]
        self.check(desk, *talk)
        self.assert_same((desk.log(), len(desk), bool(desk), repr(desk)), (talk, 4, True, "Desk(4 lines)"))
        desk.log().clear()
        self.assert_same(desk.log(), talk)

    def test_the_very_shelf(self):
        shelf = Shelf()
        desk = Desk(shelf=shelf)
        self.assertIs(desk.shelf, shelf)
        shelf.apply(("table", "a", ROWS))
        self.check(desk, ("names", "a"), ("deal a 2 0", "done"))
        self.assert_same(shelf.table_of("a").parts_of(2), (0,))

    def test_two_desks_of_one_shelf(self):
        shelf = some_shelf()
        one, other = Desk(shelf), Desk(shelf)
        self.check(one, ("drop key", "done"), ("word exact", "right"))
        self.check(other, ("names", "empty exact rows"), ("word exact", "right"), ("undo", "done"))
        self.check(one, ("names", "empty exact key rows"), ("redo", "done"))
        self.check(other, ("redo", "error NothingLeft"))
        self.assert_same((shelf.computed, len(one), len(other)), (1, 4, 4))
        self.assertIs(one.shelf, other.shelf)

    def test_desks_of_twins(self):
        shelf = some_shelf()
        one, other = Desk(shelf), Desk(shelf.twin())
        self.check(one, ("drop key", "done"), ("drop rows", "done"))
        self.check(other, ("names", "empty exact key rows"), ("undo", "done"), ("names", "none"))
        self.check(one, ("names", "empty exact"))

    def test_undo_beyond_the_limit(self):
        shelf = some_shelf()
        desk = Desk(shelf)
        self.check(desk, ("drop key", "done"), ("drop rows", "done"))
        shelf.limit = 2
        self.check(desk, ("undo", "done"), ("undo", "done"), ("names", "empty exact key rows"), ("redo", "done"))

    def test_lines_at_random(self):
        rng = random.Random(145)
        words = ["names", "word", "kinds", "play", "needs", "drop", "deal", "undo", "redo", "exact", "key", "ties", "0", "1", "2"]
        one, other = some_desk(), some_desk()
        for _ in range(3000):
            line = " ".join(rng.choice(words) for _ in range(rng.randint(1, 4)))
            answer = one(line)
            self.assert_same((other.say(line), told_by(other.shelf)), (answer, told_by(one.shelf)))
            form = line.split()[0] in words[:9] and len(line.split()) == {
                "names": 1, "undo": 1, "redo": 1, "word": 2, "kinds": 2, "drop": 2, "play": 3, "needs": 3, "deal": 4,
            }[line.split()[0]]
            if not form:
                self.assert_same(answer, "unknown")
        self.assert_same((one.log() == other.log(), len(one)), (True, 3000))

    def test_tables_without_rows(self):
        shelf = Shelf()
        shelf.apply(("table", "a", table_text(Table(1, []))), ("reader", "b", reader_text(Reader.exact(1, 1))))
        self.check(Desk(shelf), ("play b a", "right"), ("deal a 0 0", "error UnknownNumber"))
