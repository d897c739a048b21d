from partfirsts.errors import InvalidPart, PartsDiffer
from partfirsts.readers import Reader
from partfirsts.runs import Run, judge
from partfirsts.tables import Table
from helper import ODD_VALUES, Case
from model import MARKS, Model, WAYS, readers_on_tables, some_moves

# Ties of keys, and two rows that lie in both parts.
TIES = Table(2, [
    (0, 3, (0,)), (0, 6, (0, 1)), (1, 2, (0,)), (1, 8, (0, 1)), (2, 1, (0,)), (0, 5, (1,)), (1, 4, (1,)), (2, 7, (1,)),
])
ONE = Table.alone(1, [(0, 1), (0, 2), (0, 3), (1, 4)])
LATER = [(1, 8), (2, 1)]
# What is open in the two parts behind the first page, by the mark, the inner and the middle order.
BEHIND = {
    ("key", "up", "number"): ([(2, 1)], [(2, 7)]),
    ("from", "up", "number"): ([(1, 2), (1, 8), (2, 1)], [(1, 4), (1, 8), (2, 7)]),
    ("row", "up", "number"): (LATER, [(1, 4), (1, 8), (2, 7)]),
    ("each", "up", "number"): (LATER, [(1, 4), (1, 8), (2, 7)]),
    ("count", "up", "number"): (LATER, [(1, 4), (1, 8), (2, 7)]),
    ("rest", "up", "number"): (LATER, [(1, 4), (1, 8), (2, 7)]),
    ("key", "down", "back"): ([(2, 1)], [(2, 7)]),
    ("from", "down", "back"): ([(1, 8), (1, 2), (2, 1)], [(1, 8), (1, 4), (2, 7)]),
    ("row", "down", "back"): ([(2, 1)], [(2, 7)]),
    ("each", "down", "back"): ([(2, 1)], [(2, 7)]),
    ("count", "down", "back"): ([(1, 2), (2, 1)], [(1, 4), (2, 7)]),
    ("rest", "down", "back"): ([(1, 2), (2, 1)], [(1, 4), (2, 7)]),
    ("key", "up", "part"): ([(2, 1)], [(2, 7)]),
    ("row", "up", "back"): ([(1, 8), (2, 1)], [(1, 8), (2, 7)]),
    ("each", "up", "back"): ([(1, 2), (1, 8), (2, 1)], [(1, 8), (2, 7)]),
    ("count", "up", "back"): ([(1, 2), (1, 8), (2, 1)], [(1, 8), (2, 7)]),
    ("rest", "up", "back"): ([(1, 2), (1, 8), (2, 1)], [(1, 8), (2, 7)]),
}
# The rows of the one part that are open behind a page with (0, 2) alone, as it is sent with (0, 3) and told first.
BEHIND_ONE = {
    "key": [(1, 4)],
    "from": [(0, 3), (0, 2), (0, 1), (1, 4)],
    "row": [(0, 3), (1, 4)],
    "each": [(0, 3), (1, 4)],
    "count": [(0, 2), (0, 1), (1, 4)],
    "rest": [(0, 3), (0, 1), (1, 4)],
}


def reader_of(way, states):
    mark, inner, order = way
    return Reader(mark, states, inner=inner, order=order)


class AheadOfTheFirstPage(Case):
    def test_nothing_is_left_out(self):
        for way in WAYS:
            run = Run(reader_of(way, [(4, (3, 3), 0, 0)]), TIES)
            if way[1] == "up":
                self.assert_same(run.open_rows(0), [(0, 3), (0, 6), (1, 2), (1, 8), (2, 1)])
                self.assert_same(run.open_rows(1), [(0, 5), (0, 6), (1, 4), (1, 8), (2, 7)])
            else:
                self.assert_same(run.open_rows(0), [(0, 6), (0, 3), (1, 8), (1, 2), (2, 1)])
                self.assert_same(run.open_rows(part=1), [(0, 6), (0, 5), (1, 8), (1, 4), (2, 7)])

    def test_sent(self):
        for way in WAYS:
            for asks in [(1, 1), (1, 3), (3, 2), (9, 4), (5, 9)]:
                run = Run(reader_of(way, [(4, asks, 0, 0)]), TIES)
                for part in (0, 1):
                    self.assert_same(run.sent(part), run.open_rows(part)[:asks[part]])
                    self.assert_same(run.sent(part=part), run.sent(part))

    def test_at_hand(self):
        for inner, order, hand in [
            ("up", "number", [(0, 3), (0, 5), (0, 6), (1, 2), (1, 4)]),
            ("up", "back", [(0, 6), (0, 5), (0, 3), (1, 4), (1, 2)]),
            ("up", "part", [(0, 3), (0, 6), (0, 5), (1, 2), (1, 4)]),
            ("down", "number", [(0, 3), (0, 5), (0, 6), (1, 8)]),
            ("down", "back", [(0, 6), (0, 5), (0, 3), (1, 8)]),
            ("down", "part", [(0, 3), (0, 6), (0, 5), (1, 8)]),
        ]:
            for mark in MARKS:
                self.assert_same(Run(reader_of((mark, inner, order), [(4, (3, 3), 0, 0)]), TIES).at_hand(), hand)

    def test_the_least_part_is_one_that_sent_the_row(self):
        # Part 0 has (0, 6), too, but does not send it.
        run = Run(Reader("row", [(4, (1, 3), 0, 0)], order="part"), TIES)
        self.assert_same(run.at_hand(), [(0, 3), (0, 5), (0, 6), (1, 4)])
        run = Run(Reader("row", [(4, (2, 2), 0, 0)], order="part"), TIES)
        self.assert_same(run.at_hand(), [(0, 3), (0, 6), (0, 5)])

    def test_empty_table(self):
        run = Run(Reader.exact(3, 2), Table(3, []))
        for part in range(3):
            self.assert_same((run.open_rows(part), run.sent(part)), ([], []))
        self.assert_same((run.at_hand(), run.state), ([], 0))


class BehindPages(Case):
    def test_open_behind_the_first_page(self):
        for way, opened in BEHIND.items():
            run = Run(reader_of(way, [(4, (3, 3), 0, 0)]), TIES)
            run.page()
            self.assertEqual((run.open_rows(0), run.open_rows(1)), opened, way)
            self.assert_same(run.state, 0)

    def test_open_behind_a_page_of_one_row(self):
        for mark, opened in BEHIND_ONE.items():
            run = Run(Reader(mark, [(1, (2,), 0, 0)], inner="down"), ONE)
            self.assert_same(run.page(), [(0, 2)])
            self.assertEqual(run.open_rows(0), opened, mark)
            self.assertEqual(run.sent(0), opened[:2], mark)

    def test_open_behind_the_second_page(self):
        for mark, opened in [
            ("row", ([(2, 1)], [(2, 7)])), ("each", ([(2, 1)], [(2, 7)])),
            ("count", ([(2, 1)], [(2, 7)])), ("rest", ([(2, 1)], [(2, 7)])),
        ]:
            run = Run(Reader(mark, [(4, (3, 3), 1, 1), (2, (2, 2), 0, 0)]), TIES)
            run.page()
            self.assert_same(run.at_hand(), [(1, 4), (1, 8), (2, 1)])
            self.assert_same(run.page(), [(1, 4), (1, 8)])
            self.assert_same((run.open_rows(0), run.open_rows(1)), opened)
            self.assert_same(run.at_hand(), [(2, 1), (2, 7)])

    def test_each_leaves_out_nothing_of_a_part_without_a_told_row(self):
        table = Table(2, [(0, 1, (0,)), (0, 2, (0,)), (0, 0, (1,)), (0, 3, (1,))])
        run = Run(Reader("each", [(2, (2, 2), 0, 0)], order="part"), table)
        self.assert_same(run.page(), [(0, 1), (0, 2)])
        self.assert_same((run.open_rows(0), run.open_rows(1)), ([], [(0, 0), (0, 3)]))
        run = Run(Reader("row", [(2, (2, 2), 0, 0)], order="part"), table)
        run.page()
        self.assert_same((run.open_rows(0), run.open_rows(1)), ([], [(0, 3)]))

    def test_told_of_a_part_that_did_not_send_the_row(self):
        # The row 4 is sent by part 0 alone, ahead of the row 2 of part 1.
        table = Table(2, [(0, 4, (0, 1)), (0, 1, (1,)), (0, 2, (1,))])
        for mark, opened in [("each", []), ("count", [(0, 4)]), ("rest", [(0, 2)])]:
            run = Run(Reader(mark, [(9, (1, 1), 0, 0)]), table)
            self.assert_same(run.page(), [(0, 1), (0, 4)])
            self.assert_same((run.open_rows(0), run.open_rows(1)), ([], opened))

    def test_moves_keep_what_was_told_of_a_part(self):
        table = Table(2, [(0, 1, (0,)), (0, 2, (0,)), (1, 3, (1,)), (1, 4, (0,))])
        for mark, opened in [
            ("key", ([(1, 4)], [(1, 3)])),
            ("from", ([(0, 1), (1, 4)], [(0, 2), (1, 3)])),
            ("row", ([(1, 4)], [(1, 3)])),
            ("each", ([(1, 4)], [(0, 2), (1, 3)])),
            ("count", ([], [(0, 2), (1, 3)])),
            ("rest", ([(1, 4)], [(0, 2), (1, 3)])),
        ]:
            run = Run(Reader(mark, [(2, (2, 2), 0, 0)]), table)
            self.assert_same(run.page(), [(0, 1), (0, 2)])
            run.move(2, 1)
            self.assertEqual((run.open_rows(0), run.open_rows(1)), opened, mark)

    def test_sent_and_at_hand_are_empty_behind_the_end(self):
        for mark in MARKS:
            run = Run(Reader(mark, [(2, (2,), None, None)]), ONE)
            run.page()
            self.assert_same((run.state, run.fault), (None, ("left", 3)))
            self.assert_same((run.sent(0), run.at_hand()), ([], []))
            wanted = {"key": [(1, 4)], "from": [(0, 1), (0, 2), (0, 3), (1, 4)]}.get(mark, [(0, 3), (1, 4)])
            self.assert_same(run.open_rows(0), wanted)
        run = Run(Reader("from", [(4, (4,), None, None)]), ONE)
        run.page()
        self.assert_same((run.ended, run.open_rows(0), run.sent(0), run.at_hand()), (True, [(1, 4)], [], []))

    def test_behind_a_fault_that_is_found_ahead_of_a_page(self):
        run = Run(Reader("from", [(4, (4,), 0, 0)]), ONE)
        run.page()
        self.assert_same((run.sent(0), run.at_hand()), ([(1, 4)], [(1, 4)]))
        run.page()
        self.assert_same((run.fault, run.open_rows(0), run.sent(0), run.at_hand()), (("twice", 4), [(1, 4)], [], []))


class Errors(Case):
    def test_parts_differ(self):
        for parts in range(1, 5):
            for many in range(1, 5):
                reader, table = Reader("row", [(1, (1,) * parts, 0, 0)]), Table(many, [])
                if parts == many:
                    self.assert_same(Run(reader, table).at_hand(), [])
                    self.assert_same(Run(table=table, reader=reader).state, 0)
                else:
                    self.assert_error(PartsDiffer, [], Run, reader, table)
                    self.assert_error(PartsDiffer, [], judge, reader, table)

    def test_wrong_parts(self):
        for parts in range(1, 5):
            run = Run(Reader.exact(parts, 1), Table(parts, [(0, 1, (0,))]))
            for _ in range(3):
                for value in [*ODD_VALUES, -1, parts, parts + 1, 10 ** 29]:
                    self.assert_error(InvalidPart, [value], run.open_rows, value)
                    self.assert_error(InvalidPart, [value], run.sent, value)
                for part in range(parts):
                    self.assertEqual(len(run.open_rows(part)), 1 if part == 0 and not run.pages() else 0)
                run.play(most=1)
            self.assert_same(run.ended, True)


class Copies(Case):
    def test_what_is_returned_may_be_changed(self):
        run = Run(Reader.exact(2, 3), TIES)
        run.page().clear()
        for read in (lambda: run.open_rows(0), lambda: run.sent(1), run.at_hand, run.pages, run.told):
            first = read()
            wanted = list(first)
            first.reverse()
            first.append(None)
            self.assert_same(read(), wanted)
            self.assertTrue(wanted)
        run.pages()[0].clear()
        run.pages()[0].append((9, 9))
        self.assert_same(run.pages(), [[(0, 3), (0, 5), (0, 6)]])
        made = run.play()
        made[0].clear()
        made.clear()
        self.assert_same(run.pages(), [[(0, 3), (0, 5), (0, 6)], [(1, 2), (1, 4), (1, 8)], [(2, 1), (2, 7)]])

    def test_properties_cannot_be_assigned(self):
        run = Run(Reader.exact(2, 3), TIES)
        for name in ("reader", "table", "state", "fault", "ended"):
            self.assertRaises(AttributeError, setattr, run, name, None)
        self.assert_same((run.reader, run.table), (Reader.exact(2, 3), TIES))


class AgainstTheModel(Case):
    def check(self, run, model):
        parts = range(model.parts)
        self.assert_same([run.open_rows(part) for part in parts], [model.places(model.open_rows(p)) for p in parts])
        self.assert_same([run.sent(part) for part in parts], [model.places(model.sent(part)) for part in parts])
        self.assert_same(run.at_hand(), model.places(model.at_hand()))
        self.assert_same((run.state, run.fault), (model.state, model.fault))
        self.assert_same(run.ended, model.state is None and model.fault is None)
        self.assert_same((run.pages(), run.told(), len(run)), (model.pages, model.told, len(model.pages)))
        self.assertEqual((repr(run), bool(run)), (f"Run({len(model.pages)} pages)", True))

    def test_page_by_page_with_moves(self):
        for reader, table, rng in readers_on_tables(1, 120):
            run, model = Run(reader, table), Model(reader, table)
            self.check(run, model)
            while model.state is not None:
                for _, number, part in some_moves(rng, table)[:rng.choice([0, 0, 2])]:
                    parts = rng.choice([(part,), tuple(range(table.parts))])
                    run.move(number, *parts)
                    model.lies[number] = set(parts)
                    self.check(run, model)
                self.assert_same(run.page(), model.page())
                self.check(run, model)
