import itertools
import random

from partfirsts.faults import KINDS, fault_table, possible
from partfirsts.readers import Reader
from partfirsts.runs import judge
from partfirsts.standings import standings
from partfirsts.tables import Table
from partfirsts.verdicts import Right, Wrong, decide, is_right
from helper import ODD_VALUES, Case
from model import readers_on_tables, some_moves, whole_readers
from test_kinds import kinds_by_the_words
from test_standings import NO_STANDINGS, all_standings, some_readers, steps_by_the_words

THREE = Reader("rest", [(2, (2, 2), 1, 2), (1, (1, 3), 0, None), (9, (1, 1), None, None)])
LISTED = [(0, (0, 1)), (1, (0, 1)), (2, ())]
FIVE = Table(2, [(0, 1, (0,)), (1, 2, (1,)), (2, 3, (0,)), (3, 4, (1,)), (4, 5, (0,))])


def listed_by_the_words(reader, listed):
    return (0, tuple(range(reader.parts))) in listed and all(
        set(steps_by_the_words(reader, item)) <= set(listed) and not kinds_by_the_words(reader, item) for item in listed
    )


class RightHolds(Case):
    def check(self, holds, reader, listed, **flags):
        self.assert_same(Right(reader, listed, **flags).holds(), holds)

    def test_the_true_list(self):
        self.check(True, THREE, LISTED)
        self.check(True, THREE, tuple(LISTED))
        for reader in whole_readers(41, 12):
            self.check(is_right(reader), reader, list(standings(reader)))
            self.check(is_right(reader), reader, tuple(standings(reader)))

    def test_other_orders_and_doubles(self):
        for listed in itertools.permutations(LISTED):
            self.check(True, THREE, list(listed))
        self.check(True, THREE, LISTED + LISTED)
        self.check(True, THREE, LISTED[:1] * 3 + LISTED)

    def test_more_standings_than_steps_lead_to(self):
        # No fault can come where no part is live, nor at the state 1 with one part, whence no step leads out.
        self.check(True, THREE, LISTED + [(0, ()), (1, ())])
        self.check(False, THREE, LISTED + [(1, (1,))])
        self.check(True, THREE, LISTED + [(1, (1,)), (0, (1,))])
        self.check(False, THREE, LISTED + [(2, (0,))])
        self.check(False, THREE, LISTED + [(2, (0, 1))])

    def test_lists_that_lack_a_standing(self):
        self.check(False, THREE, [])
        self.check(False, THREE, ())
        for some in LISTED:
            self.check(False, THREE, [item for item in LISTED if item != some])
            self.check(False, THREE, [some])
        self.check(False, THREE, [(2, ())])

    def test_any_lists_of_standings(self):
        rng = random.Random(42)
        held = 0
        for reader in some_readers(43, 10):
            every = all_standings(reader)
            for _ in range(6):
                listed = rng.sample(every, rng.randint(0, len(every)))
                holds = listed_by_the_words(reader, listed)
                self.check(holds, reader, listed)
                held += holds
        for reader in whole_readers(44, 20):
            closed = list(standings(reader))
            free = [item for item in all_standings(reader) if not kinds_by_the_words(reader, item)]
            for listed in (closed, free, closed[1:], closed[:-1], free[1:], free[:-1]):
                holds = listed_by_the_words(reader, listed)
                self.check(holds, reader, listed)
                held += holds
        self.assertGreater(held, 50)

    def test_items_that_are_no_standings(self):
        reader = Reader("rest", [(2, (2, 2, 2), 1, None), (2, (3, 3, 3), 0, None)])
        listed = [(0, (0, 1, 2)), (1, (0, 1, 2))]
        self.check(True, reader, listed)
        for value in NO_STANDINGS:
            self.check(False, reader, listed + [value])
            self.check(False, reader, [value] + listed)
            self.check(False, reader, (value, *listed))
        for value in [(False, (0, 1, 2)), (0, (False, 1, 2)), [0, (0, 1, 2)], (0, [0, 1, 2])]:
            self.check(False, reader, [value, (1, (0, 1, 2))])
        # What is equal to the true list, but has booleans for numbers, is none.
        self.check(False, reader, [(0, (0, True, 2)), (True, (0, 1, 2))])

    def test_values_that_are_no_lists(self):
        for value in [*ODD_VALUES, 0, "right", (0, (0, 1)), {(0, (0, 1)): True}]:
            self.check(False, THREE, value)
            self.check(False, Reader.exact(2, 2), value)

    def test_readers_that_are_wrong(self):
        for reader in some_readers(45, 8):
            if not is_right(reader):
                self.check(False, reader, list(standings(reader)))
                self.check(False, reader, [(0, tuple(range(reader.parts)))])

    def test_copies_and_moves(self):
        for reader in whole_readers(46, 12):
            if is_right(reader):
                listed = list(standings(reader))
                for copies, moves in itertools.product((False, True), repeat=2):
                    holds = is_right(reader, copies=copies, moves=moves)
                    self.check(holds, reader, listed, copies=copies, moves=moves)

    def test_copies_and_moves_that_are_no_booleans(self):
        exact = Reader.exact(2, 2)
        self.check(True, exact, [(0, (0, 1))], copies=True, moves=True)
        for value in [0, 1, None, "", "True", (), [], (True,), [False], 2]:
            for reader in (exact, Reader("each", [(2, (2, 2), 0, None)], order="part")):
                listed = list(standings(reader))
                self.check(False, reader, listed, copies=value)
                self.check(False, reader, listed, moves=value)
                self.check(False, reader, listed, copies=value, moves=value)


class WrongHolds(Case):
    def check(self, holds, reader, kind, table, **more):
        self.assert_same(Wrong(reader, kind, table, **more).holds(), holds)

    def test_each_kind_and_its_table(self):
        for reader in some_readers(47, 6):
            for kind in KINDS:
                if possible(reader, kind):
                    table = fault_table(reader, kind)
                    for other in KINDS:
                        self.check(other == kind, reader, other, table)

    def test_drawn_tables_and_moves(self):
        held = set()
        for reader, table, rng in readers_on_tables(48, 40):
            moves = some_moves(rng, table)
            found = judge(reader, table, moves=moves)[0]
            for kind in KINDS:
                self.check(kind == found, reader, kind, table, moves=moves)
                self.check(kind == found, reader, kind, table, moves=tuple(moves))
            held.add(found)
            self.check(False, reader, "right", table, moves=moves)
        self.assertEqual(held, {"right", *KINDS})

    def test_kinds_that_are_none(self):
        right, wrong = Reader.exact(2, 2), Reader("from", [(2, (2, 2), 0, 0)])
        self.check(True, wrong, "twice", FIVE)
        for value in [*ODD_VALUES, 0, "right", "unknown", "Twice", "twice ", ("twice",), ["twice"], None]:
            self.check(False, wrong, value, FIVE)
            self.check(False, right, value, FIVE)

    def test_tables_that_are_none(self):
        reader = Reader("from", [(2, (2, 2), 0, 0)])
        for value in [*ODD_VALUES, 0, FIVE.rows(), (2, FIVE.rows()), reader]:
            self.check(False, reader, "twice", value)

    def test_tables_of_other_parts(self):
        for parts in (1, 3, 4):
            reader = Reader("from", [(2, (2,) * parts, 0, 0)])
            self.check(False, reader, "twice", FIVE)
            self.check(True, reader, "twice", Table.alone(parts, FIVE.places()))

    def test_moves_that_are_none(self):
        reader = Reader("from", [(2, (2, 2), 0, 0)])
        for value in [(0, 1, 0), (7, 5, 1), (10 ** 29, 1, 1)]:
            self.check(True, reader, "twice", FIVE, moves=[value])
            self.check(True, reader, "twice", FIVE, moves=(value,))
            self.check(False, reader, "twice", FIVE, moves=value)
        for value in [
            *ODD_VALUES, [0, 1, 0], (0, 1), (0, 1, 0, 0), (-1, 1, 0), (True, 1, 0), (None, 1, 0), ("0", 1, 0), (1.0, 1, 0),
            (0, 6, 0), (0, -1, 0), (0, True, 0), (0, None, 0), (0, "1", 0), (0, (1,), 0), (0, [1], 0),
            (0, 1, 2), (0, 1, -1), (0, 1, False), (0, 1, None), (0, 1, "0"), (0, 1, (0,)), (0, 1, [0]),
        ]:
            self.check(False, reader, "twice", FIVE, moves=[value])
            self.check(False, reader, "twice", FIVE, moves=[(0, 1, 0), value])
            # Moves that are not come to must be moves as well.
            self.check(False, reader, "twice", FIVE, moves=[(9, 1, 0), value, (9, 1, 0)])

    def test_values_that_are_no_lists_of_moves(self):
        reader = Reader("from", [(2, (2, 2), 0, 0)])
        for value in [*ODD_VALUES, 0, "moves", {}]:
            self.check(value in ([], ()), reader, "twice", FIVE, moves=value)

    def test_moves_make_the_fault(self):
        reader = Reader("rest", [(2, (2, 2), 0, 0)])
        for moves, kind in [
            ([], "right"), ([(1, 1, 1)], "twice"), ([(1, 1, 1), (1, 1, 0)], "right"), ([(1, 3, 1)], "right"),
            ([(3, 5, 1)], "twice"), ([(4, 5, 1)], "right"),
        ]:
            for other in [*KINDS, "right"]:
                self.check(other == kind != "right", reader, other, FIVE, moves=moves)

    def test_copies_make_the_fault(self):
        reader = Reader("each", [(1, (1, 1), 0, 0)], order="part")
        self.check(True, reader, "lost", Table(2, [(0, 2, (0, 1)), (0, 1, (1,))]))
        self.check(False, reader, "lost", Table(2, [(0, 2, (0,)), (0, 1, (1,))]))

    def test_right_readers_have_no_wrong_that_holds(self):
        for reader, table, rng in readers_on_tables(49, 20, plain=True):
            if decide(reader):
                for kind in KINDS:
                    self.check(False, reader, kind, table)
