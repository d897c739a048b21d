from partfirsts.errors import InvalidPart, PartsDiffer, UnknownNumber
from partfirsts.readers import Reader
from partfirsts.runs import Run, judge
from partfirsts.tables import Table
from helper import ODD_VALUES, Case
from model import MARKS, Model, WAYS, readers_on_tables, some_moves

FIVE = Table(2, [(0, 1, (0,)), (1, 2, (1,)), (2, 3, (0,)), (3, 4, (1,)), (4, 5, (0,))])
PAIRS = [[(0, 1), (1, 2)], [(2, 3), (3, 4)], [(4, 5)]]
RIGHT = ("right", None, PAIRS)


class Kinds(Case):
    def test_example_of_the_document(self):
        table = Table(2, [(0, 1, (0,)), (0, 2, (0,)), (1, 3, (1,))])
        self.assert_same(
            [judge(Reader("row", [(2, (1, 1), 0, None)]), table), judge(Reader.exact(2, 2), table)],
            [("late", 2, [[(0, 1), (1, 3)]]), ("right", None, [[(0, 1), (0, 2)], [(1, 3)]])],
        )

    def test_right(self):
        self.assert_same(judge(Reader.exact(2, 2), FIVE), RIGHT)
        self.assert_same(judge(table=FIVE, reader=Reader("rest", [(2, (2, 2), 0, 0)])), RIGHT)
        for mark in MARKS:
            empty = judge(Reader(mark, [(2, (2, 2), 0, 0)]), Table(2, []))
            self.assert_same(empty, ("right", None, []))

    def test_each_kind(self):
        for reader, verdict in [
            (Reader("from", [(2, (2, 2), 0, 0)]), ("twice", 2, PAIRS[:1])),
            (Reader("row", [(2, (2, 2), None, 0)]), ("left", 3, PAIRS[:1])),
            (Reader("row", [(2, (2, 2), 1, 0), (1, (1, 1), None, 0)]), ("left", 4, [PAIRS[0], [(2, 3)]])),
            (Reader("row", [(9, (1, 1), 0, None)]), ("left", 3, PAIRS[:1])),
            (Reader("row", [(2, (2, 2), 1, 0), (9, (2, 1), 0, 0)]), RIGHT[:2] + ([PAIRS[0], PAIRS[1] + PAIRS[2]],)),
        ]:
            self.assert_same(judge(reader, FIVE), verdict)
        table = Table.alone(1, [(0, 3), (0, 1), (0, 2), (5, 0)])
        self.assert_same(judge(Reader("key", [(2, (2,), 0, 0)]), table), ("lost", 3, [[(0, 1), (0, 2)]]))
        late = Table(2, [(0, 3, (0,)), (1, 1, (0,)), (2, 4, (1,))])
        self.assert_same(judge(Reader("rest", [(3, (1, 1), 0, 0)]), late), ("late", 1, [[(0, 3), (2, 4)]]))

    def test_more_pages_than_play_makes(self):
        table = Table(2, [(number // 4, number, (number % 2,)) for number in range(300)])
        kind, number, pages = judge(Reader.exact(2, 1), table)
        self.assert_same((kind, number), ("right", None))
        self.assert_same(pages, [[place] for place in table.places()])
        kind, number, pages = judge(Reader("row", [(1, (1, 1), 0, None)]), table)
        self.assert_same((kind, number, len(pages)), ("right", None, 300))

    def test_tables_and_readers_stay_as_they_are(self):
        table, reader, moves = Table(2, FIVE.rows()), Reader.exact(2, 2), [(1, 3, 1), (0, 1, 1)]
        judge(reader, table, moves=moves)
        self.assert_same((table, reader, moves), (FIVE, Reader.exact(2, 2), [(1, 3, 1), (0, 1, 1)]))

    def test_what_is_returned_may_be_changed(self):
        reader = Reader.exact(2, 2)
        kind, number, pages = judge(reader, FIVE)
        pages[0].clear()
        pages.clear()
        self.assert_same(judge(reader, FIVE), RIGHT)


class MovesOfJudge(Case):
    def test_of_count_0(self):
        reader = Reader("rest", [(2, (1, 1), 0, 0)])
        self.assert_same(judge(reader, FIVE), RIGHT)
        self.assert_same(judge(reader, FIVE, moves=[(0, 2, 0)]), ("late", 2, [[(0, 1), (3, 4)]]))
        self.assert_same(judge(reader, FIVE, moves=((0, 2, 0),)), ("late", 2, [[(0, 1), (3, 4)]]))
        self.assert_same(judge(reader, FIVE, moves=[(0, 2, 0), (0, 4, 0)])[0], "right")

    def test_moves_are_keyword_only(self):
        self.assertRaises(TypeError, judge, Reader.exact(2, 2), FIVE, [])
        self.assert_same(judge(Reader.exact(2, 2), FIVE, moves=[]), RIGHT)

    def test_told_rows_that_move(self):
        for mark, verdict in [
            ("row", RIGHT), ("rest", ("twice", 1, PAIRS[:1])), ("count", ("lost", 3, PAIRS[:1])), ("each", RIGHT),
        ]:
            reader = Reader(mark, [(2, (2, 2), 0, None)])
            self.assert_same(judge(reader, FIVE, moves=[(1, 1, 1)]), verdict)
        reader = Reader("rest", [(2, (2, 2), 0, None)])
        self.assert_same(judge(reader, FIVE, moves=[(2, 3, 1)]), ("twice", 3, PAIRS[:2]))

    def test_moves_of_one_count_in_their_order(self):
        reader = Reader("rest", [(2, (2, 2), 0, None)])
        self.assert_same(judge(reader, FIVE, moves=[(1, 1, 1), (1, 1, 0)]), RIGHT)
        self.assert_same(judge(reader, FIVE, moves=[(1, 1, 0), (1, 1, 1)]), ("twice", 1, PAIRS[:1]))
        self.assert_same(judge(reader, FIVE, moves=[(1, 1, 1), (2, 1, 0)]), ("twice", 1, PAIRS[:1]))

    def test_any_order_of_counts(self):
        reader = Reader("rest", [(1, (1, 1), 0, 0)])
        moves = [(0, 2, 0), (1, 2, 1), (2, 5, 1), (3, 4, 0), (2, 4, 1)]
        wanted = judge(reader, FIVE, moves=moves)
        self.assert_same(wanted, ("right", None, [[place] for place in FIVE.places()]))
        for some in ([3, 4, 0, 2, 1], [2, 1, 4, 3, 0], [1, 0, 3, 2, 4]):
            self.assert_same(judge(reader, FIVE, moves=[moves[at] for at in some]), wanted)

    def test_moves_that_are_not_come_to(self):
        wrong = [(3, 1, 1), (3, 99, 1), (4, 1, 99), (1000, None, "a"), (3, 1, None)]
        self.assert_same(judge(Reader.exact(2, 2), FIVE, moves=wrong), RIGHT)
        faulty = Reader("row", [(2, (2, 2), None, 0)])
        self.assert_same(judge(faulty, FIVE, moves=[(1, 1, 1), (1, 99, 1), (2, 1, 9)]), ("left", 3, PAIRS[:1]))
        faulty = Reader("from", [(2, (2, 2), 0, 0)])
        self.assert_same(judge(faulty, FIVE, moves=[(2, 99, 1), (3, 1, 9)]), ("twice", 2, PAIRS[:1]))

    def test_moves_ahead_of_the_empty_page(self):
        reader = Reader("rest", [(2, (2, 2), 0, 0)])
        self.assert_same(judge(reader, FIVE, moves=[(3, 5, 0), (4, 99, 0)]), RIGHT)
        self.assert_same(judge(reader, FIVE, moves=[(3, 5, 1)]), ("twice", 5, PAIRS))
        self.assert_error(UnknownNumber, [99], judge, reader, FIVE, moves=[(3, 99, 0)])
        empty = Table(2, [])
        self.assert_error(UnknownNumber, [5], judge, reader, empty, moves=[(0, 5, 0)])
        self.assert_same(judge(reader, empty, moves=[(1, 5, 0)]), ("right", None, []))

    def test_errors(self):
        for reader in (Reader.exact(2, 2), Reader("from", [(2, (2, 2), 0, 0)])):
            for count in (0, 1):
                for value in [*ODD_VALUES, 0, 6, -1]:
                    self.assert_error(UnknownNumber, [value], judge, reader, FIVE, moves=[(count, value, 7)])
                for value in [*ODD_VALUES, -1, 2]:
                    self.assert_error(InvalidPart, [value], judge, reader, FIVE, moves=[(count, 1, value)])
                moves = [(count, 1, 0), (count, 2, 9), (count, 9, 1)]
                self.assert_error(InvalidPart, [9], judge, reader, FIVE, moves=moves)
            self.assert_error(UnknownNumber, [8], judge, reader, FIVE, moves=[(1, 7, 0), (0, 8, 0)])

    def test_parts_differ_ahead_of_all_else(self):
        self.assert_error(PartsDiffer, [], judge, Reader.exact(3, 2), FIVE, moves=[(0, 99, 99)])
        self.assert_error(PartsDiffer, [], judge, Reader.exact(1, 2), Table(2, []))


class AgainstTheModel(Case):
    def test_plain_tables_without_moves(self):
        seen = {}
        for reader, table, _ in readers_on_tables(4, 60, plain=True):
            verdict = judge(reader, table)
            self.assert_same(verdict, Model(reader, table).judged())
            seen.setdefault(reader.mark, set()).add(verdict[0])
        always = {"right", "late", "left"}
        self.assertEqual(seen, {
            "key": always | {"lost"}, "from": always | {"twice"}, "row": always | {"lost", "twice"},
            "each": always | {"lost"}, "count": always | {"lost"}, "rest": always,
        })

    def test_all_tables_with_moves(self):
        for reader, table, rng in readers_on_tables(5, 80):
            moves = some_moves(rng, table)
            self.assert_same(judge(reader, table, moves=moves), Model(reader, table).judged(moves))

    def test_judge_against_a_run_with_moves(self):
        for reader, table, rng in readers_on_tables(6, 10):
            moves = some_moves(rng, table)
            run = Run(reader, table)
            while run.state is not None:
                for count, number, part in moves:
                    if count == len(run):
                        run.move(number, part)
                run.page()
            kind, number = ("right", None) if run.ended else run.fault
            self.assert_same(judge(reader, table, moves=moves), (kind, number, run.pages()))

    def test_a_right_run_tells_each_row_once_in_order(self):
        rights = 0
        for reader, table, rng in readers_on_tables(7, 40):
            kind, number, pages = judge(reader, table, moves=some_moves(rng, table))
            told = [place for page in pages for place in page]
            self.assertEqual(len(told), len(set(told)))
            if kind == "right":
                rights += 1
                self.assertEqual(sorted(told), table.places())
                self.assertEqual([key for key, _ in told], [key for key, _ in table.places()])
        self.assertGreater(rights, len(WAYS))
