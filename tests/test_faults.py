import itertools
import random

from partfirsts.errors import InvalidKind
from partfirsts.faults import KINDS, fault_table, possible
from partfirsts.readers import Reader
from partfirsts.runs import Run, judge
from partfirsts.standings import first_standing, kinds_at, standings, steps
from partfirsts.tables import Table
from helper import ODD_VALUES, Case
from model import MARKS, Model, WAYS, readers_on_tables, some_states
from test_standings import some_readers

STATES = list(itertools.product(range(1, 5), [
    (1,), (2,), (3,), (4,), (1, 1), (1, 2), (2, 1), (2, 2), (3, 1), (1, 4), (3, 3), (4, 3), (1, 1, 1), (2, 1, 2), (1, 1, 1, 1),
], (0, None), (0, None)))


def readers_of_one_state():
    for mark, inner, order in WAYS:
        for size, asks, full, thin in STATES:
            yield Reader(mark, [(size, asks, full, thin)], inner=inner, order=order)


def all_small_tables(parts, keys, most):
    """The plain tables of few rows with numbers from 0 on, all ways of keys and parts."""
    for many in range(most + 1):
        for rows in itertools.product(itertools.product(range(keys), range(parts)), repeat=many):
            yield Table(parts, [(key, number, (part,)) for number, (key, part) in enumerate(rows)])


class FaultCase(Case):
    def check_reader(self, reader):
        """Each possible kind has a table, and no other one has."""
        for kind in KINDS:
            table = fault_table(reader, kind)
            self.assertIs(possible(reader, kind), table is not None)
            if table is not None:
                self.assertIsInstance(table, Table)
                self.assertEqual((table.plain, table.parts), (True, reader.parts))
                self.assertEqual(judge(reader, table)[0], kind)

    def check_run(self, reader, table):
        kind = judge(reader, table)[0]
        if kind != "right":
            self.assertTrue(possible(reader, kind), (kind, reader.mark, reader.states(), table.rows()))


class Kinds(Case):
    def test_constant(self):
        self.assert_same(KINDS, ("late", "left", "lost", "twice"))

    def test_no_kinds(self):
        for reader in (Reader.exact(2, 2), Reader("from", [(1, (1,), None, None)])):
            for value in [*ODD_VALUES, 0, "right", "Late", "late ", "LOST", ("late",), ["late"], KINDS, list(KINDS)]:
                self.assert_error(InvalidKind, [value], possible, reader, value)
                self.assert_error(InvalidKind, [value], fault_table, reader, value)

    def test_by_name(self):
        reader = Reader("key", [(1, (1,), 0, 0)])
        self.assert_same(possible(reader=reader, kind="lost"), True)
        self.assert_same(judge(reader, fault_table(kind="lost", reader=reader))[0], "lost")


class Possible(FaultCase):
    def test_exact_readers_have_no_faults(self):
        for parts in range(1, 5):
            for size in range(1, 10):
                for kind in KINDS:
                    self.assert_same(possible(Reader.exact(parts, size), kind), False)
                    self.assertIsNone(fault_table(Reader.exact(parts, size), kind))

    def test_few_readers(self):
        for mark, inner, order, states, kinds in [
            ("key", "up", "number", [(1, (1,), 0, 0)], ["lost"]),
            ("key", "up", "number", [(2, (1,), 0, 0)], ["lost"]),
            ("key", "up", "number", [(2, (1, 2), 0, None)], ["late", "left", "lost"]),
            ("from", "up", "number", [(1, (1,), None, 0)], ["left"]),
            ("from", "up", "number", [(1, (1,), 0, None)], ["twice"]),
            ("row", "up", "number", [(2, (1, 1), 0, None)], ["late", "left", "lost"]),
            ("row", "up", "back", [(3, (1, 1), 0, None)], ["late", "left"]),
            ("row", "up", "back", [(3, (1, 1), 0, 0)], ["late", "lost", "twice"]),
            ("row", "up", "part", [(2, (2, 2), 0, None)], ["lost", "twice"]),
            ("each", "up", "number", [(2, (2, 2), 0, None)], []),
            ("each", "up", "part", [(2, (2, 2), 0, None)], []),
            ("each", "down", "back", [(2, (2, 2), 0, None)], ["lost"]),
            ("count", "down", "number", [(2, (2,), 0, None)], []),
            ("count", "down", "number", [(2, (3,), 0, None)], ["lost"]),
            ("rest", "down", "part", [(2, (2, 3), 0, None)], []),
            ("rest", "down", "part", [(2, (2, 1), 0, 0)], ["late"]),
        ]:
            reader = Reader(mark, states, inner=inner, order=order)
            self.assertEqual([kind for kind in KINDS if possible(reader, kind)], kinds, (mark, inner, order, states))

    def test_only_standings_that_steps_lead_to(self):
        for states, kinds in [
            ([(2, (2, 2), 0, None), (2, (1, 1), 1, 1)], []),
            ([(2, (2, 2), 1, None), (2, (1, 1), 1, 1)], ["late"]),
            # Behind a thin page of asks for a whole page no part has rows.
            ([(3, (3, 3), 0, 1), (2, (1, 1), 1, 1)], []),
            # Behind a thin page only the first part may have rows.
            ([(4, (1, 4), 0, 1), (2, (2, 2), None, 1)], ["late", "left"]),
            ([(4, (1, 4), 0, 1), (2, (2, 1), 1, None)], ["late"]),
            ([(4, (4, 1), 0, 1), (2, (2, 1), 1, None)], ["late", "left"]),
        ]:
            self.assertEqual([kind for kind in KINDS if possible(Reader("rest", states), kind)], kinds, states)

    def test_by_the_standings(self):
        for reader in some_readers(21, 15):
            found = {kind for standing in standings(reader) for kind in kinds_at(reader, standing)}
            self.assertEqual([kind for kind in KINDS if possible(reader, kind)], [k for k in KINDS if k in found])


class Tables(FaultCase):
    def test_readers_of_one_state(self):
        for reader in readers_of_one_state():
            self.check_reader(reader)

    def test_readers_of_several_states(self):
        for reader in some_readers(22, 30):
            self.check_reader(reader)

    def test_a_fault_far_behind(self):
        # The first five states ask for whole pages, and the last one does not.
        states = [(9, (9, 9, 9, 9), at + 1, 0) for at in range(5)] + [(9, (9, 9, 9, 8), None, 0)]
        for mark, inner, order in WAYS:
            reader = Reader(mark, states, inner=inner, order=order)
            self.check_reader(reader)
            if mark != "from":
                self.assert_same((possible(reader, "late"), possible(reader, "left")), (True, True))
                self.assertGreater(len(fault_table(reader, "left")), 45)

    def test_a_fault_behind_thin_pages(self):
        # A thin page leads on from each of the first five states, and leaves the part with the ask 8.
        states = [(9, (9, 8, 9), None, at + 1) for at in range(5)] + [(8, (8, 8, 8), None, None)]
        for mark, inner, order in WAYS:
            self.check_reader(Reader(mark, states, inner=inner, order=order))
        states = [(9, (9, 9), 1, 0), (9, (9, 9), 2, 0), (9, (9, 8), 0, 3), (8, (9, 8), None, 0)]
        for mark, inner, order in WAYS:
            reader = Reader(mark, states, inner=inner, order=order)
            self.check_reader(reader)
            self.assert_same(possible(reader, "left"), mark != "from")

    def test_no_state_is_changed(self):
        reader = Reader("row", [(3, (1, 3), 0, None)], order="back")
        tables = [fault_table(reader, kind) for kind in KINDS]
        self.assert_same([fault_table(reader, kind).rows() for kind in KINDS], [table.rows() for table in tables])
        self.assert_same(reader.states(), [(3, (1, 3), 0, None)])


class Facts(FaultCase):
    def test_no_kind_comes_that_is_told_as_impossible(self):
        tables = list(all_small_tables(2, 2, 4))
        for mark, inner, order in WAYS:
            for state in [(2, (1, 2), 0, None), (2, (2, 2), 0, 0), (1, (2, 1), 0, None), (3, (2, 1), 0, 0)]:
                reader = Reader(mark, [state], inner=inner, order=order)
                kinds = {judge(reader, table)[0] for table in tables} - {"right"}
                self.assertTrue(all(possible(reader, kind) for kind in kinds), (mark, inner, order, state, kinds))

    def test_one_part(self):
        tables = list(all_small_tables(1, 3, 5))
        for mark, inner, order in WAYS:
            for states in [[(2, (2,), 0, None)], [(1, (2,), 0, 0)], [(2, (3,), 1, 1), (1, (1,), 0, 0)]]:
                reader = Reader(mark, states, inner=inner, order=order)
                kinds = {judge(reader, table)[0] for table in tables} - {"right"}
                self.assertTrue(all(possible(reader, kind) for kind in kinds), (mark, inner, order, states, kinds))

    def test_on_some_larger_tables(self):
        for reader, table, _ in readers_on_tables(23, 60, plain=True):
            self.check_run(reader, table)

    def test_readers_without_possible_faults_read_rightly(self):
        rng = random.Random(24)
        for reader in some_readers(25, 40):
            if not any(possible(reader, kind) for kind in KINDS):
                for _ in range(5):
                    rows = [(rng.randint(0, 3), number, (rng.randrange(reader.parts),)) for number in range(20)]
                    self.assertEqual(judge(reader, Table(reader.parts, rows))[0], "right")

    def begun_in(self, reader, state):
        """The reader that begins in this state."""
        order = [state] + [other for other in range(len(reader)) if other != state]
        at = {other: order.index(other) for other in order} | {None: None}
        states = [reader.states()[other] for other in order]
        states = [(size, asks, at[full], at[thin]) for size, asks, full, thin in states]
        return Reader(reader.mark, states, inner=reader.inner, order=reader.order)

    def test_the_rest_of_a_run_is_a_run_on_the_rows_that_were_not_told(self):
        for reader, table, _ in readers_on_tables(26, 60, plain=True):
            kind, number, pages = judge(reader, table)
            run = Run(reader, table)
            run.page()
            while run.state is not None:
                made, ahead = len(run), run.twin()
                ahead.page()
                if ahead.fault is not None and ahead.fault[0] in ("lost", "twice"):
                    break
                rest = table.without(*run.told())
                self.assert_same(judge(self.begun_in(reader, run.state), rest), (kind, number, pages[made:]))
                run.page()

    def test_runs_go_along_the_steps(self):
        for reader, table, _ in readers_on_tables(27, 60, plain=True):
            run, standing = Run(reader, table), first_standing(reader)
            while run.state is not None:
                run.page()
                ahead = run.twin()
                ahead.play(most=1)
                if ahead.fault is not None and (run.fault is not None or ahead.fault[0] in ("lost", "twice")):
                    self.assertIn(ahead.fault[0], kinds_at(reader, standing))
                    break
                if run.state is not None:
                    rest = table.without(*run.told())
                    live = {part for part in range(table.parts) if rest.part(part)}
                    # A step tells which parts may have rows: those that have some are among them.
                    fits = [one for one in steps(reader, standing) if one[0] == run.state and live <= set(one[1])]
                    self.assertTrue(fits)
                    standing = min(fits, key=lambda one: len(one[1]))

    def test_the_model_finds_the_same_faults(self):
        for reader in some_readers(28, 6):
            for kind in KINDS:
                table = fault_table(reader, kind)
                if table is not None:
                    self.assertEqual(Model(reader, table).judged()[0], kind)

    def test_marks_that_never_lose_or_tell_twice(self):
        rng = random.Random(29)
        for _ in range(30):
            states = some_states(rng, 3)
            for mark, kinds in [("from", ["lost"]), ("rest", ["lost", "twice"]), ("key", ["twice"]), ("count", ["twice"])]:
                for kind in kinds:
                    self.assert_same(possible(Reader(mark, states), kind), False)
        self.assertEqual(len(MARKS), 6)
