from partfirsts.errors import Ended, InvalidNumber, InvalidPart, NothingLeft, UnknownNumber
from partfirsts.readers import Reader
from partfirsts.runs import Run
from partfirsts.tables import Table
from helper import ODD_VALUES, Case
from model import readers_on_tables, some_moves

FIVE = Table(2, [(0, 1, (0,)), (1, 2, (1,)), (2, 3, (0,)), (3, 4, (1,)), (4, 5, (0,))])
PAIRS = [[(0, 1), (1, 2)], [(2, 3), (3, 4)], [(4, 5)]]


def told_by(run):
    """All that a run tells, besides its history."""
    parts = range(run.reader.parts)
    return (
        run.reader.states(), run.table.rows(), run.state, run.fault, run.ended, run.pages(), run.told(), len(run),
        [run.open_rows(part) for part in parts], [run.sent(part) for part in parts], run.at_hand(), repr(run),
    )


def new_run():
    return Run(Reader.exact(2, 2), FIVE)


class Calls(Case):
    def test_a_run_can_be_called(self):
        run, other = new_run(), new_run()
        for _ in range(3):
            self.assert_same(run(), other.page())
            self.assert_same(told_by(run), told_by(other))
            self.assert_same(run.history(), other.history())
        self.assert_error(Ended, [], run)
        run = Run(Reader("from", [(2, (2, 2), 0, 0)]), FIVE)
        self.assert_same((run(), run(), run.fault), (PAIRS[0], None, ("twice", 2)))
        self.assert_error(Ended, [], run)

    def test_play(self):
        run = new_run()
        self.assert_same(run.play(), PAIRS)
        self.assert_same((run.ended, run.history(), run.play()), (True, (3, 0), []))
        run = Run(Reader("row", [(2, (2, 2), 0, 0)]), FIVE)
        self.assert_same(run.play(), [*PAIRS, []])
        self.assert_same((run.ended, run.history()), (True, (4, 0)))

    def test_play_up_to_a_fault(self):
        run = Run(Reader("from", [(2, (2, 2), 0, 0)]), FIVE)
        self.assert_same(run.play(), [PAIRS[0], None])
        self.assert_same((run.fault, run.history(), run.play()), (("twice", 2), (2, 0), []))
        run = Run(Reader("row", [(2, (2, 2), None, 0)]), FIVE)
        self.assert_same((run.play(), run.fault), ([PAIRS[0]], ("left", 3)))

    def test_play_with_most(self):
        for most in range(6):
            run, other = new_run(), new_run()
            made = [other.page() for _ in range(min(most, 3))]
            self.assert_same(run.play(most=most), made)
            self.assert_same(told_by(run), told_by(other))
            self.assert_same(run.history(), other.history())
            self.assert_same(made + run.play(), PAIRS)

    def test_play_makes_a_hundred_pages(self):
        table = Table.alone(1, [(number, number) for number in range(300)])
        run = Run(Reader.exact(1, 1), table)
        self.assertEqual([len(run.play()), len(run), run.history()], [100, 100, (100, 0)])
        self.assertEqual([len(run.play(most=1000)), len(run), run.ended], [201, 300, True])
        self.assertEqual(len(Run(Reader.exact(1, 1), table).play(most=300)), 300)

    def test_play_against_page_by_page(self):
        for reader, table, _ in readers_on_tables(2, 12):
            run, other = Run(reader, table), Run(reader, table)
            made = []
            while other.state is not None:
                made.append(other.page())
            self.assert_same(run.play(), made)
            self.assert_same(told_by(run), told_by(other))
            self.assert_same(run.history(), other.history())
            self.assertTrue(run.ended or run.fault is not None)

    def test_errors_of_play(self):
        run = new_run()
        for value in [*ODD_VALUES, -1, 1001, 10 ** 29]:
            self.assert_error(InvalidNumber, [value], run.play, most=value)
        self.assert_same((run.history(), run.pages()), ((0, 0), []))
        self.assertRaises(TypeError, run.play, 1)
        self.assert_same(run.play(most=1000), PAIRS)
        self.assert_error(InvalidNumber, [1001], run.play, most=1001)
        self.assert_same((run.history(), run.play(most=0)), ((3, 0), []))


class Moves(Case):
    def test_ahead_of_the_first_page(self):
        run = new_run()
        self.assertIsNone(run.move(1, 1))
        self.assert_same(run.table, FIVE.moved(1, 1))
        self.assert_same((run.open_rows(0), run.open_rows(1)), ([(2, 3), (4, 5)], [(0, 1), (1, 2), (3, 4)]))
        self.assert_same(run.play(), PAIRS)
        self.assert_same(FIVE.parts_of(1), (0,))

    def test_to_several_parts_in_any_order(self):
        run = new_run()
        run.move(4, 1, 0)
        self.assert_same((run.table.parts_of(4), run.table.plain), ((0, 1), False))
        run.move(5, 1)
        self.assert_same(run.table.rows(), FIVE.moved(4, 0, 1).moved(5, 1).rows())
        self.assert_same(run.play(), PAIRS)

    def test_to_where_the_row_lies(self):
        run = new_run()
        run.move(1, 0)
        self.assert_same((run.table, run.history()), (FIVE, (1, 0)))

    def test_behind_pages(self):
        for mark, number, part, fault in [
            ("row", 3, 1, None), ("row", 1, 1, None), ("key", 2, 0, None), ("each", 3, 1, None), ("each", 1, 1, None),
            ("each", 2, 0, ("twice", 2)), ("rest", 3, 1, None), ("rest", 1, 1, ("twice", 1)),
            ("rest", 2, 0, ("twice", 2)), ("count", 5, 1, None), ("count", 3, 1, None),
            ("count", 1, 1, ("lost", 3)), ("count", 2, 0, ("lost", 4)),
        ]:
            run = Run(Reader(mark, [(2, (2, 2), 0, None)]), FIVE)
            run.page()
            run.move(number, part)
            self.assert_same((run.state, run.fault, run.pages()), (0, None, PAIRS[:1]))
            run.play()
            self.assertEqual((run.fault, run.ended), (fault, fault is None), (mark, number))
            self.assert_same(run.pages(), PAIRS if fault is None else PAIRS[:1])

    def test_a_count_behind_a_move(self):
        # One row was told of part 0 and one of part 1; so each part leaves out its first row.
        run = Run(Reader("count", [(2, (2, 2), 0, None)]), FIVE)
        run.page()
        run.move(1, 1)
        self.assert_same((run.open_rows(0), run.open_rows(1)), ([(4, 5)], [(1, 2), (3, 4)]))
        self.assertIsNone(run.page())
        self.assert_same(run.fault, ("lost", 3))
        run = Run(Reader("count", [(2, (2, 2), 0, None)]), FIVE)
        run.page()
        run.move(5, 1)
        self.assert_same((run.page(), run.page(), run.ended), (PAIRS[1], PAIRS[2], True))

    def test_a_told_row_comes_to_lie_in_several_parts(self):
        for mark, fault in [("row", None), ("each", ("twice", 1)), ("rest", ("twice", 1)), ("key", None)]:
            run = Run(Reader(mark, [(1, (1, 1), 0, 0)]), FIVE)
            run.page()
            run.move(1, 0, 1)
            run.play()
            self.assertEqual(run.fault, fault)

    def test_errors_change_nothing(self):
        for pages in range(3):
            run = new_run()
            run.move(2, 0)
            run.play(most=pages)
            run.page()
            run.back()
            before, history = told_by(run), run.history()
            for value in [*ODD_VALUES, 0, 6, -1, 10 ** 29]:
                if value not in FIVE:
                    self.assert_error(UnknownNumber, [value], run.move, value, 0)
                    self.assert_error(UnknownNumber, [value], run.move, value)
                    self.assert_error(UnknownNumber, [value], run.move, value, 7)
            for value in [*ODD_VALUES, -1, 2, 10 ** 29]:
                self.assert_error(InvalidPart, [value], run.move, 1, value)
                self.assert_error(InvalidPart, [value], run.move, 1, 0, value)
            self.assert_error(InvalidPart, [None], run.move, 1)
            self.assert_error(InvalidPart, [0], run.move, 1, 0, 1, 0)
            self.assert_error(InvalidPart, [1], run.move, 1, 1, 1, 5)
            self.assert_error(InvalidPart, [5], run.move, 1, 1, 5, 1)
            self.assert_same((told_by(run), run.history()), (before, history))

    def test_over(self):
        over = [(new_run(), 3), (Run(Reader("from", [(2, (2, 2), 0, 0)]), FIVE), 2)]
        over.append((Run(Reader("row", [(2, (1, 1), None, 0)]), FIVE), 1))
        for run, calls in over:
            run.play()
            before = told_by(run)
            for args in [(1, 0), (99, 0), (None,), (1,), (1, 7), (1, 0, 0)]:
                self.assert_error(Ended, [], run.move, *args)
            self.assert_error(Ended, [], run.page)
            self.assert_same((told_by(run), run.history()), (before, (calls, 0)))


class History(Case):
    def test_nothing_left(self):
        run = new_run()
        self.assert_same(run.history(), (0, 0))
        self.assert_error(NothingLeft, [], run.back)
        self.assert_error(NothingLeft, [], run.again)
        run.page()
        self.assert_error(NothingLeft, [], run.again)
        self.assert_same((run.history(), run.pages()), ((1, 0), PAIRS[:1]))
        self.assertIsNone(run.back())
        self.assert_error(NothingLeft, [], run.back)
        self.assert_same((run.history(), run.pages()), ((0, 1), []))
        self.assertIsNone(run.again())
        self.assert_error(NothingLeft, [], run.again)
        self.assert_same((run.history(), run.pages()), ((1, 0), PAIRS[:1]))

    def test_page_by_page(self):
        run = Run(Reader("row", [(2, (2, 2), 0, 0)]), FIVE)
        seen = [told_by(run)]
        while run.state is not None:
            run.page()
            seen.append(told_by(run))
        self.assertEqual(len(seen), 5)
        for _ in range(2):
            for at in range(3, -1, -1):
                run.back()
                self.assert_same((told_by(run), run.history()), (seen[at], (at, 4 - at)))
            for at in range(1, 5):
                run.again()
                self.assert_same((told_by(run), run.history()), (seen[at], (at, 4 - at)))

    def test_back_behind_a_fault(self):
        for reader, calls in [
            (Reader("from", [(2, (2, 2), 0, 0)]), 2), (Reader("row", [(2, (2, 2), None, 0)]), 1),
            (Reader("row", [(2, (1, 1), 0, 0)]), 1),
        ]:
            table = Table(2, [(0, 1, (0,)), (0, 2, (0,)), (1, 3, (1,)), (2, 4, (0,))])
            run = Run(reader, table)
            run.play()
            over = told_by(run)
            self.assert_same((run.fault is None, run.history()), (False, (calls, 0)))
            run.back()
            self.assert_same((run.fault, run.state, run.history()), (None, 0, (calls - 1, 1)))
            self.assert_same(run.twin().move(4, 1), None)
            run.again()
            self.assert_same((told_by(run), run.history()), (over, (calls, 0)))
            self.assert_error(Ended, [], run.page)

    def test_moves(self):
        run = new_run()
        run.page()
        run.move(3, 1)
        run.move(1, 0, 1)
        moved = told_by(run)
        run.back()
        self.assert_same((run.table, run.history()), (FIVE.moved(3, 1), (2, 1)))
        run.back()
        self.assert_same((run.table, run.history(), run.pages()), (FIVE, (1, 2), PAIRS[:1]))
        run.back()
        self.assert_same((run.table, run.history(), run.pages()), (FIVE, (0, 3), []))
        run.again()
        run.again()
        run.again()
        self.assert_same((told_by(run), run.history()), (moved, (3, 0)))

    def test_another_call_ends_what_can_be_made_again(self):
        for call in (lambda run: run.page(), lambda run: run.move(1, 0), lambda run: run(), lambda run: run.play(most=1)):
            run = new_run()
            run.play()
            run.back()
            run.back()
            self.assert_same(run.history(), (1, 2))
            call(run)
            self.assert_same(run.history(), (2, 0))
            self.assert_error(NothingLeft, [], run.again)

    def test_what_is_no_call_keeps_what_can_be_made_again(self):
        run = new_run()
        run.play()
        run.back()
        run.back()
        told_by(run)
        run.play(most=0)
        self.assert_error(InvalidNumber, [-1], run.play, most=-1)
        self.assert_error(UnknownNumber, [9], run.move, 9, 0)
        self.assert_error(InvalidPart, [9], run.move, 1, 9)
        run.twin().page()
        self.assert_same(run.history(), (1, 2))
        run.again()
        run.again()
        self.assert_error(Ended, [], run.page)
        self.assert_same((run.history(), run.play(), run.history(), run.pages()), ((3, 0), [], (3, 0), PAIRS))

    def test_play_counts_as_its_calls_of_page(self):
        run = new_run()
        run.play(most=2)
        run.move(1, 1)
        self.assert_same(run.history(), (3, 0))
        run.back()
        run.back()
        self.assert_same((run.pages(), run.table, run.history()), (PAIRS[:1], FIVE, (1, 2)))

    def test_back_and_again_at_random(self):
        for reader, table, rng in readers_on_tables(3, 12):
            run = Run(reader, table)
            seen, at = [told_by(run)], 0
            for _ in range(25):
                action = rng.choice(["page", "page", "move", "back", "again"])
                moves = some_moves(rng, table)
                if action == "back" and at > 0:
                    run.back()
                    at -= 1
                elif action == "again" and at < len(seen) - 1:
                    run.again()
                    at += 1
                elif run.state is not None and action in ("page", "move"):
                    if action == "page" or not moves:
                        run.page()
                    else:
                        run.move(*moves[0][1:])
                    seen, at = [*seen[:at + 1], told_by(run)], at + 1
                self.assert_same((told_by(run), run.history()), (seen[at], (at, len(seen) - 1 - at)))


class Twins(Case):
    def test_same_state_and_calls(self):
        run = new_run()
        run.page()
        run.move(3, 1)
        run.page()
        run.back()
        twin = run.twin()
        self.assertIsInstance(twin, Run)
        for _ in range(4):
            self.assert_same((told_by(twin), twin.history()), (told_by(run), run.history()))
            if run.history()[0] > 0:
                run.back()
                twin.back()
        for _ in range(3):
            run.again()
            twin.again()
            self.assert_same((told_by(twin), twin.history()), (told_by(run), run.history()))

    def test_independent(self):
        run = new_run()
        run.page()
        run.page()
        run.back()
        before, history = told_by(run), run.history()
        twin = run.twin()
        twin.move(5, 1)
        twin.play()
        twin.back()
        self.assert_same((told_by(run), run.history()), (before, history))
        twin = run.twin()
        run.back()
        run.move(1, 1)
        self.assert_same((told_by(twin), twin.history()), (before, history))
        twin.again()
        self.assert_same((twin.pages(), twin.history()), (PAIRS[:2], (2, 0)))

    def test_twins_of_runs_that_are_over(self):
        for reader in (Reader.exact(2, 2), Reader("from", [(2, (2, 2), 0, 0)]), Reader("row", [(2, (2, 2), None, 0)])):
            run = Run(reader, FIVE)
            run.play()
            twin = run.twin()
            self.assert_same((told_by(twin), twin.history()), (told_by(run), run.history()))
            self.assert_error(Ended, [], twin.page)
            twin.back()
            self.assert_same((twin.state, run.state), (0, None))
