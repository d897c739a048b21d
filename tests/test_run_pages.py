from partfirsts.errors import Ended
from partfirsts.readers import Reader
from partfirsts.runs import Run, judge
from partfirsts.tables import Table
from helper import Case
from model import MARKS, WAYS

FIVE = Table(2, [(0, 1, (0,)), (1, 2, (1,)), (2, 3, (0,)), (3, 4, (1,)), (4, 5, (0,))])
PAIRS = [[(0, 1), (1, 2)], [(2, 3), (3, 4)], [(4, 5)]]


class PageTests(Case):
    def assert_run(self, run, state, fault, pages):
        """All that a run tells behind its pages."""
        self.assert_same((run.state, run.fault, run.pages()), (state, fault, pages))
        self.assert_same(run.ended, state is None and fault is None)
        self.assert_same(run.told(), [number for page in pages for _, number in page])
        self.assert_same(len(run), len(pages))
        self.assertIs(bool(run), True)
        self.assertEqual(repr(run), f"Run({len(pages)} pages)")

    def assert_over(self, run):
        before = (run.state, run.fault, run.ended, run.pages(), run.told(), run.table, run.history())
        for call in (run.page, run, lambda: run.move(1, 0), lambda: run.move(None), lambda: run.move(1)):
            self.assert_error(Ended, [], call)
        self.assert_same(run.play(), [])
        after = (run.state, run.fault, run.ended, run.pages(), run.told(), run.table, run.history())
        self.assert_same(after, before)


class Pages(PageTests):
    def test_full_and_thin_pages(self):
        run = Run(Reader.exact(2, 2), FIVE)
        self.assert_run(run, 0, None, [])
        self.assert_same(run.page(), PAIRS[0])
        self.assert_run(run, 0, None, PAIRS[:1])
        self.assert_same(run.page(), PAIRS[1])
        self.assert_run(run, 0, None, PAIRS[:2])
        self.assert_same(run.page(), PAIRS[2])
        self.assert_run(run, None, None, PAIRS)
        self.assert_over(run)

    def test_an_empty_page_ends_the_run(self):
        for mark in ("key", "row", "each", "count", "rest"):
            run = Run(Reader(mark, [(5, (3, 2), 0, 0)]), FIVE)
            self.assertEqual(len(run.page()), 5)
            self.assert_same(run.state, 0)
            self.assert_same(run.page(), [])
            self.assert_run(run, None, None, [[*PAIRS[0], *PAIRS[1], *PAIRS[2]]])
            self.assert_over(run)

    def test_empty_table(self):
        for mark in MARKS:
            for following in (0, None):
                run = Run(Reader(mark, [(2, (1, 1), following, following)]), Table(2, []))
                self.assert_run(run, 0, None, [])
                self.assert_same(run.page(), [])
                self.assert_run(run, None, None, [])
                self.assert_over(run)

    def test_the_end_behind_a_full_page(self):
        for mark in MARKS:
            run = Run(Reader(mark, [(5, (5, 5), None, 0)]), FIVE)
            self.assertEqual(len(run.page()), 5)
            self.assert_same((run.state, run.fault, run.ended), (None, None, True))
            self.assert_over(run)

    def test_states_behind_full_and_thin_pages(self):
        states = [(2, (1, 1), 2, 1), (9, (1, 1), None, 0), (3, (1, 1), 0, 1)]
        run = Run(Reader("row", states), FIVE)
        self.assert_same((run.page(), run.state), (PAIRS[0], 2))
        self.assert_same((run.page(), run.state), (PAIRS[1], 1))
        self.assert_same((run.page(), run.state), (PAIRS[2], 0))
        self.assert_same((run.page(), run.state), ([], None))
        self.assert_run(run, None, None, PAIRS)

    def test_a_page_of_size_one_is_full_or_empty(self):
        run = Run(Reader("row", [(1, (1, 1), 0, None)]), FIVE)
        self.assert_same([run.page() for _ in range(6)], [[(0, 1)], [(1, 2)], [(2, 3)], [(3, 4)], [(4, 5)], []])
        self.assert_run(run, None, None, [[(0, 1)], [(1, 2)], [(2, 3)], [(3, 4)], [(4, 5)]])

    def test_a_row_of_several_parts_is_told_once(self):
        table = Table(3, [(0, 1, (0, 1, 2)), (0, 2, (1, 2)), (1, 3, (0, 2))])
        for way in WAYS:
            run = Run(Reader(way[0], [(9, (9, 9, 9), None, None)], inner=way[1], order=way[2]), table)
            self.assertEqual(sorted(run.page()), [(0, 1), (0, 2), (1, 3)])
            self.assert_same(run.ended, True)

    def test_told_in_the_middle_order(self):
        table = Table(2, [(0, 1, (1,)), (0, 2, (0,)), (0, 3, (1,)), (1, 0, (0,))])
        for order, page in [
            ("number", [(0, 1), (0, 2), (0, 3)]), ("back", [(0, 3), (0, 2), (0, 1)]), ("part", [(0, 2), (0, 1), (0, 3)]),
        ]:
            for inner in ("up", "down"):
                run = Run(Reader("rest", [(3, (3, 3), 0, 0)], inner=inner, order=order), table)
                self.assert_same(run.page(), page)
                self.assert_same(run.told(), [number for _, number in page])

    def test_properties(self):
        reader = Reader.exact(2, 2)
        run = Run(reader, FIVE)
        self.assertTrue(run.reader == reader and run.table == FIVE)
        self.assert_same((run.state, run.fault, run.ended), (0, None, False))

    def test_reader_and_table_stay_as_they_are(self):
        reader, table = Reader.exact(2, 2), Table(2, FIVE.rows())
        run = Run(reader, table)
        run.move(1, 1)
        run.play()
        self.assert_same((reader, table), (Reader.exact(2, 2), FIVE))
        self.assert_same(reader.states(), [(2, (2, 2), 0, None)])


class Lost(PageTests):
    def test_found_ahead_of_the_next_page(self):
        table = Table.alone(1, [(0, 1), (0, 2), (0, 3), (1, 4)])
        run = Run(Reader("key", [(2, (2,), 0, 0)]), table)
        self.assert_same(run.page(), [(0, 1), (0, 2)])
        self.assert_run(run, 0, None, [[(0, 1), (0, 2)]])
        self.assertIsNone(run.page())
        self.assert_run(run, None, ("lost", 3), [[(0, 1), (0, 2)]])
        self.assert_over(run)

    def test_the_least_lost_row(self):
        for numbers in [(1, 2, 3, 4), (4, 3, 2, 1), (3, 1, 4, 2)]:
            table = Table.alone(1, [(key // 2, number) for key, number in enumerate(numbers)])
            run = Run(Reader("key", [(1, (1,), 0, 0)]), table)
            run.play()
            self.assert_same(run.fault, ("lost", max(numbers[:2])))

    def test_rows_that_are_open_are_not_lost(self):
        # The row 1 is untold and open, but the row 9, which is greater, is not open.
        table = Table(2, [(0, 5, (0,)), (0, 1, (1,)), (0, 9, (1,))])
        run = Run(Reader("each", [(1, (1, 2), 0, 0)], inner="down", order="back"), table)
        self.assert_same(run.page(), [(0, 9)])
        self.assert_same(run.open_rows(1), [])
        self.assertIsNone(run.page())
        self.assert_same(run.fault, ("lost", 1))

    def test_lost_comes_ahead_of_twice(self):
        # Behind (0, 3), (0, 2) by rows, the row 3 is open again, and the row 1 is no more.
        for numbers, fault in [((3, 2, 1), ("lost", 1)), ((3, 2), ("twice", 3))]:
            table = Table.alone(1, [(0, number) for number in numbers])
            run = Run(Reader("row", [(2, (3,), 0, 0)], order="back"), table)
            self.assert_same(run.page(), [(0, 3), (0, 2)])
            self.assertIsNone(run.page())
            self.assert_run(run, None, fault, [[(0, 3), (0, 2)]])
            self.assert_over(run)

    def test_lost_ahead_of_twice_though_its_row_is_greater(self):
        # By count and down, (0, 5) and not (0, 2) is left out behind a page with (0, 2).
        run = Run(Reader("count", [(1, (2,), 0, 0)], inner="down"), Table.alone(1, [(0, 2), (0, 5)]))
        self.assert_same(run.page(), [(0, 2)])
        self.assert_same(run.open_rows(0), [(0, 2)])
        self.assertIsNone(run.page())
        self.assert_same(run.fault, ("lost", 5))

    def test_a_row_that_is_open_in_one_of_its_parts_is_not_lost(self):
        table = Table(2, [(0, 1, (0,)), (0, 2, (0, 1)), (0, 3, (0,))])
        run = Run(Reader("each", [(2, (3, 1), 0, 0)], order="back"), table)
        self.assert_same(run.page(), [(0, 3), (0, 2)])
        self.assertIsNone(run.page())
        self.assert_same(run.fault, ("lost", 1))
        table = Table(2, [(0, 1, (0, 1)), (0, 3, (0,))])
        run = Run(Reader("each", [(1, (2, 1), 0, 0)], order="back"), table)
        self.assert_same((run.page(), run.page(), run.page()), ([(0, 3)], [(0, 1)], []))
        self.assert_same(run.ended, True)

    def test_no_first_page_is_faulty(self):
        # Nothing is left out ahead of the first page, so that no first page is faulty.
        for way in WAYS:
            run = Run(Reader(way[0], [(9, (9, 9), 0, 0)], inner=way[1], order=way[2]), FIVE)
            self.assertEqual(len(run.page()), 5)


class Twice(PageTests):
    def test_found_ahead_of_the_next_page(self):
        run = Run(Reader("from", [(2, (2, 2), 0, 0)]), FIVE)
        self.assert_same(run.page(), PAIRS[0])
        self.assert_run(run, 0, None, PAIRS[:1])
        self.assertIsNone(run.page())
        self.assert_run(run, None, ("twice", 2), PAIRS[:1])
        self.assert_over(run)

    def test_the_least_told_row(self):
        table = Table.alone(1, [(0, 9), (1, 7), (1, 5), (1, 6), (2, 1)])
        for order in ("number", "back", "part"):
            run = Run(Reader("from", [(4, (4,), 0, 0)], order=order), table)
            run.play()
            self.assert_same(run.fault, ("twice", 5))
        run = Run(Reader("row", [(4, (4,), 0, 0)], order="back"), table)
        run.play()
        self.assert_same((run.fault, run.told()), (("twice", 6), [9, 7, 6, 5]))

    def test_behind_a_move(self):
        for mark, fault in [
            ("key", None), ("row", None), ("each", ("twice", 1)), ("count", ("lost", 3)), ("rest", ("twice", 1)),
        ]:
            run = Run(Reader(mark, [(1, (1, 1), 0, 0)]), FIVE)
            run.page()
            run.move(1, 1)
            self.assert_same(run.fault, None)
            self.assertEqual(run.page(), None if fault else [(1, 2)])
            self.assertEqual(run.fault, fault)

    def test_open_in_one_of_its_parts(self):
        run = Run(Reader("each", [(1, (1, 1), 0, 0)], order="part"), Table(2, [(0, 3, (0,)), (0, 4, (1,))]))
        run.page()
        run.move(3, 0, 1)
        self.assertIsNone(run.page())
        self.assert_same(run.fault, ("twice", 3))


class Late(PageTests):
    def test_found_behind_the_page(self):
        table = Table(2, [(0, 1, (0,)), (0, 2, (0,)), (1, 3, (1,))])
        run = Run(Reader("row", [(2, (1, 1), 0, None)]), table)
        self.assert_same(run.page(), [(0, 1), (1, 3)])
        self.assert_run(run, None, ("late", 2), [[(0, 1), (1, 3)]])
        self.assert_over(run)

    def test_the_least_row_that_was_not_told(self):
        table = Table(2, [(0, 9, (0,)), (1, 8, (0,)), (1, 3, (0,)), (5, 7, (0,)), (4, 1, (1,)), (0, 2, (1,))])
        for inner in ("up", "down"):
            run = Run(Reader("rest", [(4, (1, 2), 0, 0)], inner=inner), table)
            self.assert_same(run.page(), [(0, 2), (0, 9), (4, 1)])
            self.assert_run(run, None, ("late", 3), [[(0, 2), (0, 9), (4, 1)]])

    def test_rows_of_one_key_are_not_late(self):
        table = Table(2, [(0, 1, (0,)), (0, 2, (0,)), (0, 3, (1,)), (1, 4, (1,))])
        run = Run(Reader("rest", [(2, (1, 1), 0, 0)]), table)
        self.assert_same(run.page(), [(0, 1), (0, 3)])
        self.assert_run(run, 0, None, [[(0, 1), (0, 3)]])
        self.assert_same(run.play(), [[(0, 2), (1, 4)], []])
        self.assert_same(run.ended, True)

    def test_late_comes_ahead_of_left(self):
        for following in (0, None):
            table = Table(2, [(0, 5, (0,)), (1, 6, (0,)), (2, 3, (1,)), (9, 1, (1,))])
            run = Run(Reader("row", [(2, (1, 1), following, following)]), table)
            run.page()
            self.assert_run(run, None, ("late", 6), [[(0, 5), (2, 3)]])

    def test_on_a_later_page(self):
        table = Table(2, [(0, 1, (0,)), (0, 2, (1,)), (1, 3, (0,)), (2, 4, (0,)), (3, 5, (1,))])
        run = Run(Reader("count", [(2, (1, 1), 0, 0)]), table)
        self.assert_same(run.page(), [(0, 1), (0, 2)])
        self.assert_same(run.fault, None)
        self.assert_same(run.page(), [(1, 3), (3, 5)])
        self.assert_run(run, None, ("late", 4), [[(0, 1), (0, 2)], [(1, 3), (3, 5)]])


class Left(PageTests):
    def test_behind_a_full_page(self):
        run = Run(Reader("row", [(2, (2, 2), None, 0)]), FIVE)
        self.assert_same(run.page(), PAIRS[0])
        self.assert_run(run, None, ("left", 3), PAIRS[:1])
        self.assert_over(run)

    def test_behind_a_thin_page(self):
        table = Table.alone(1, [(0, 8), (2, 4), (2, 3), (3, 1)])
        run = Run(Reader("row", [(2, (1,), 0, None)]), table)
        self.assert_same(run.page(), [(0, 8)])
        self.assert_run(run, None, ("left", 3), [[(0, 8)]])
        self.assert_over(run)

    def test_the_least_row_that_was_not_told(self):
        table = Table.alone(1, [(0, 8), (0, 9), (0, 4), (1, 1)])
        for inner, order, page, number in [
            ("up", "number", [(0, 4)], 8), ("down", "number", [(0, 8)], 4),
            ("up", "back", [(0, 8)], 4), ("down", "back", [(0, 9)], 4),
        ]:
            run = Run(Reader("rest", [(1, (2,), None, None)], inner=inner, order=order), table)
            self.assert_same(run.page(), page)
            self.assert_run(run, None, ("left", number), [page])

    def test_a_row_that_would_be_lost_is_left(self):
        run = Run(Reader("key", [(1, (1,), None, None)]), Table.alone(1, [(0, 1), (0, 2)]))
        run.page()
        self.assert_run(run, None, ("left", 2), [[(0, 1)]])


class ReadRightly(PageTests):
    def test_rows_of_a_fault_that_are_just_avoided(self):
        # Beside each fault of the tests above, a table or a reader without it.
        for reader, table in [
            (Reader("key", [(3, (3,), 0, 0)]), Table.alone(1, [(0, 1), (0, 2), (0, 3), (1, 4)])),
            (Reader("key", [(2, (2,), 0, 0)]), Table.alone(1, [(0, 1), (0, 2), (1, 3), (1, 4)])),
            (Reader("row", [(2, (3,), 0, 0)], order="back"), Table.alone(1, [(0, 3), (1, 2)])),
            (Reader("row", [(2, (1, 1), 0, None)]), Table(2, [(0, 1, (0,)), (1, 2, (0,)), (0, 3, (1,))])),
            (Reader("row", [(2, (2, 1), 0, None)]), Table(2, [(0, 1, (0,)), (0, 2, (0,)), (1, 3, (1,))])),
            (Reader("row", [(2, (2, 2), None, 0)]), Table(2, [(0, 1, (0,)), (0, 2, (0,))])),
            (Reader("row", [(2, (1, 1), 0, None)]), Table(2, [(0, 1, (0,))])),
            (Reader("from", [(2, (1, 1), None, None)]), Table(2, [(0, 1, (0,)), (0, 2, (1,))])),
        ]:
            kind, number, pages = judge(reader, table)
            self.assert_same((kind, number), ("right", None))
            told = [place for page in pages for place in page]
            self.assertEqual(sorted(told), table.places())
            self.assertEqual([key for key, _ in told], [key for key, _ in table.places()])

    def test_exact_readers_on_long_tables(self):
        table = Table(4, [(number // 7, (number * 37) % 300, (number % 4,)) for number in range(300)])
        for size in range(1, 10):
            run = Run(Reader.exact(4, size), table)
            run.play(most=1000)
            self.assert_same(run.ended, True)
            self.assert_same([place for page in run.pages() for place in page], table.places())
            self.assertEqual(len(run), -(-300 // size))
