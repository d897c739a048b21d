from partfirsts.faults import KINDS, possible
from partfirsts.readers import Reader
from partfirsts.runs import judge
from partfirsts.standings import first_standing, standings
from partfirsts.tables import Table
from partfirsts.verdicts import Right, Verdict, Wrong, decide, is_right
from helper import Case
from model import MARKS, WAYS, whole_readers
from test_kinds import kinds_by_the_words
from test_standings import some_readers, steps_by_the_words

BOTH = [(False, False), (True, False), (False, True), (True, True)]
ALIKE = [("up", "number"), ("down", "back")]


def closed_by_the_words(reader):
    """All standings that steps lead to, by point [11]."""
    found, waiting = set(), [first_standing(reader)]
    while waiting:
        standing = waiting.pop()
        if standing not in found:
            found.add(standing)
            waiting.extend(steps_by_the_words(reader, standing))
    return sorted(found)


def right_by_the_words(reader, copies, moves):
    if any(kinds_by_the_words(reader, standing) for standing in closed_by_the_words(reader)):
        return False
    with_moves = reader.parts == 1 or reader.mark == "row"
    if moves:
        return with_moves
    return not copies or with_moves or reader.mark == "rest" or (reader.inner, reader.order) in ALIKE


class VerdictCase(Case):
    def check_decided(self, reader):
        for copies, moves in BOTH:
            verdict = decide(reader, copies=copies, moves=moves)
            right = right_by_the_words(reader, copies, moves)
            self.assert_same(is_right(reader, copies=copies, moves=moves), right)
            self.assertIs(verdict.__class__, Right if right else Wrong)
            self.assert_same((verdict.holds(), bool(verdict), verdict.reader == reader), (True, right, True))
            if right:
                self.check_right(verdict, copies, moves)
            else:
                self.check_wrong(verdict, copies, moves)

    def check_right(self, verdict, copies, moves):
        self.assert_same((verdict.told(), verdict.copies, verdict.moves), ("right", copies, moves))
        self.assert_same(verdict.listed, closed_by_the_words(verdict.reader))
        self.assert_same(verdict.listed, list(standings(verdict.reader)))

    def check_wrong(self, verdict, copies, moves):
        table = verdict.table
        self.assertIsInstance(table, Table)
        self.assertIn(verdict.kind, KINDS)
        self.assertEqual((verdict.told(), table.parts), (verdict.kind, verdict.reader.parts))
        self.assertTrue(copies or table.plain)
        self.assertIsInstance(verdict.moves, (list, tuple))
        self.assertTrue(moves or len(verdict.moves) == 0)
        for count, number, part in verdict.moves:
            self.assertTrue(count >= 0 and number in table and 0 <= part < table.parts)
        self.assertEqual(judge(verdict.reader, table, moves=verdict.moves)[0], verdict.kind)


class Decide(VerdictCase):
    def test_example_of_the_document(self):
        reader = Reader("rest", [(2, (2, 3), 0, None)])
        self.assert_same(
            [decide(reader).told(), decide(reader).listed, is_right(reader, copies=True), is_right(reader, moves=True)],
            ["right", [(0, (0, 1))], True, False],
        )

    def test_readers_of_all_marks_and_orders(self):
        for reader in some_readers(31, 12):
            self.check_decided(reader)

    def test_readers_that_ask_for_whole_pages(self):
        seen = set()
        for reader in whole_readers(32, 40):
            self.check_decided(reader)
            if is_right(reader):
                seen.add((reader.mark, reader.inner, reader.order, reader.parts > 1))
        # With one part many ways are right; with several ones the mark row is right by its exact order alone.
        self.assertIn(("row", "up", "number", True), seen)
        self.assertFalse([way for way in seen if way[0] in ("key", "from")])
        for mark in ("each", "count", "rest"):
            self.assertIn((mark, "up", "part", True), seen)
        for order in ("number", "back", "part"):
            self.assertIn(("count", "down", order, True), seen)

    def test_single_states_of_two_parts(self):
        for mark, inner, order in WAYS:
            for size in (1, 2, 3):
                for asks in [(1, 1), (1, 2), (2, 2), (3, 3), (4, 3), (9, 9)]:
                    for full, thin in [(0, None), (0, 0), (None, 0), (None, None)]:
                        self.check_decided(Reader(mark, [(size, asks, full, thin)], inner=inner, order=order))

    def test_one_part(self):
        for mark, inner, order in WAYS:
            for size, ask in [(1, 1), (2, 2), (1, 3), (3, 2), (9, 1)]:
                for full, thin in [(0, None), (0, 0), (None, 0)]:
                    self.check_decided(Reader(mark, [(size, (ask,), full, thin)], inner=inner, order=order))

    def test_exact_readers(self):
        for parts in range(1, 5):
            for size in range(1, 10):
                for copies, moves in BOTH:
                    verdict = decide(Reader.exact(parts, size), copies=copies, moves=moves)
                    self.assert_same((verdict.told(), verdict.holds(), verdict.listed), (
                        "right", True, [(0, tuple(range(parts)))],
                    ))

    def test_few_readers_with_copies_and_moves(self):
        for mark, inner, order, states, rights in [
            ("row", "up", "number", [(2, (2, 2), 0, None)], [True, True, True, True]),
            ("each", "up", "number", [(2, (2, 2), 0, None)], [True, True, False, False]),
            ("each", "up", "part", [(2, (2, 2), 0, None)], [True, False, False, False]),
            ("each", "up", "back", [(1, (1, 1), 0, None)], [True, False, False, False]),
            ("each", "up", "back", [(1, (1, 2), 0, None)], [False, False, False, False]),
            ("count", "up", "number", [(2, (2, 2), 0, None)], [True, True, False, False]),
            ("count", "down", "back", [(2, (2, 2), 0, None)], [True, True, False, False]),
            ("count", "down", "number", [(1, (1, 1), 0, None)], [True, False, False, False]),
            ("count", "down", "part", [(1, (1, 1), 0, 0)], [True, False, False, False]),
            ("count", "up", "back", [(1, (1, 1), 0, None)], [True, False, False, False]),
            ("rest", "down", "number", [(2, (2, 2), 0, None)], [True, True, False, False]),
            ("rest", "up", "part", [(2, (2, 2), 0, None)], [True, True, False, False]),
            ("rest", "up", "part", [(2, (2, 1), 0, None)], [False, False, False, False]),
            ("count", "up", "part", [(2, (2,), 0, None)], [True, True, True, True]),
            ("each", "up", "part", [(2, (1,), None, 0)], [True, True, True, True]),
            ("key", "up", "number", [(1, (1,), 0, 0)], [False, False, False, False]),
            ("from", "up", "number", [(1, (1,), 0, 0)], [False, False, False, False]),
        ]:
            reader = Reader(mark, states, inner=inner, order=order)
            self.assert_same([is_right(reader, copies=copies, moves=moves) for copies, moves in BOTH], rights)
            self.check_decided(reader)

    def test_the_list_behind_several_states(self):
        reader = Reader("rest", [(2, (2, 2), 1, 2), (1, (1, 3), 0, None), (9, (1, 1), None, None)])
        self.assert_same(decide(reader).listed, [(0, (0, 1)), (1, (0, 1)), (2, ())])
        reader = Reader("row", [(3, (1,), None, 0)])
        self.assert_same(decide(reader).listed, [(0, ()), (0, (0,))])

    def test_the_kind_of_a_wrong_is_possible(self):
        for reader in some_readers(33, 10):
            verdict = decide(reader)
            if not verdict:
                self.assertTrue(possible(reader, verdict.told()))
                self.assert_same(list(verdict.moves), [])

    def test_copies_and_moves_are_keyword_only(self):
        reader = Reader.exact(2, 2)
        for call in (decide, is_right):
            self.assertRaises(TypeError, call, reader, True)
            self.assertTrue(call(reader=reader))
            self.assertTrue(call(reader, moves=True, copies=True))


class Values(Case):
    """What the three classes keep and tell, whatever they are given."""

    def test_verdict(self):
        reader = Reader.exact(2, 2)
        for verdict in (Verdict(reader), Verdict(reader=reader)):
            self.assert_same((verdict.told(), verdict.holds(), bool(verdict)), ("unknown", False, False))
            self.assertEqual((repr(verdict), verdict.reader), ("Verdict(unknown)", reader))

    def test_classes(self):
        self.assertEqual((Right.__bases__, Wrong.__bases__), ((Verdict,), (Verdict,)))
        for kind in (Verdict, Right, Wrong):
            for name in ("told", "holds"):
                self.assertIn(name, vars(kind))

    def test_right(self):
        reader = Reader.exact(2, 2)
        verdict = Right(reader, [(0, (0, 1))])
        self.assert_same((verdict.told(), repr(verdict), bool(verdict)), ("right", "Verdict(right)", True))
        self.assert_same((verdict.listed, verdict.copies, verdict.moves), ([(0, (0, 1))], False, False))
        self.assertEqual(verdict.reader, reader)
        verdict = Right(listed=((0, (0, 1)),), reader=reader, moves=True, copies=True)
        self.assert_same((verdict.listed, verdict.copies, verdict.moves), (((0, (0, 1)),), True, True))
        self.assertRaises(TypeError, Right, reader, [], True)

    def test_a_right_that_does_not_hold_is_true(self):
        verdict = Right(Reader.exact(2, 2), [])
        self.assert_same((verdict.holds(), bool(verdict), verdict.told(), repr(verdict)), (
            False, True, "right", "Verdict(right)",
        ))

    def test_wrong(self):
        reader, table = Reader("key", [(1, (1, 1), 0, 0)]), Table(2, [(0, 1, (0,)), (0, 2, (0,))])
        verdict = Wrong(reader, "lost", table)
        self.assert_same((verdict.told(), repr(verdict), bool(verdict)), ("lost", "Verdict(lost)", False))
        self.assert_same((verdict.kind, verdict.moves, verdict.holds()), ("lost", (), True))
        self.assertEqual((verdict.reader, verdict.table), (reader, table))
        verdict = Wrong(table=table, kind="late", reader=reader, moves=[(0, 1, 1)])
        self.assert_same((verdict.kind, verdict.moves, verdict.holds(), bool(verdict)), (
            "late", [(0, 1, 1)], False, False,
        ))
        self.assertRaises(TypeError, Wrong, reader, "lost", table, [])

    def test_any_values_are_kept(self):
        values = [
            None, True, False, 0, -1, 10 ** 29, "", "right", (), [], (1, "a"), [1, (2, [3])], ([1], ((2,), [])),
            [[[[[[1]]]]]], Table(1, []),
        ]
        reader = Reader.exact(1, 1)
        for value in values:
            right = Right(reader, value, copies=value, moves=value)
            for kept in (right.listed, right.copies, right.moves):
                self.assert_same(kept, value)
            wrong = Wrong(reader, value, value, moves=value)
            for kept in (wrong.kind, wrong.table, wrong.moves, wrong.told()):
                self.assert_same(kept, value)
            self.assertEqual(repr(wrong), f"Verdict({value})")
            self.assert_same((right.holds(), wrong.holds()), (False, False))

    def test_changes_of_what_was_passed_or_returned(self):
        reader = Reader.exact(2, 2)
        listed, moves = [(0, (0, 1)), ([0], [1])], [(0, 1, 0), [1, [2]]]
        right, wrong = Right(reader, listed, copies=listed, moves=moves), Wrong(reader, moves, listed, moves=moves)
        for change in (
            lambda: (listed[1][0].append(5), listed.append(7), moves[1][1].clear(), moves.pop()),
            lambda: (right.listed.clear(), right.listed[1][0].clear(), right.copies.pop(), right.moves[1].pop()),
            lambda: (wrong.kind.clear(), wrong.told()[1].clear(), wrong.table.pop(), wrong.moves[1][1].append(0)),
        ):
            change()
            self.assert_same(right.listed, [(0, (0, 1)), ([0], [1])])
            self.assert_same(right.copies, [(0, (0, 1)), ([0], [1])])
            self.assert_same(right.moves, [(0, 1, 0), [1, [2]]])
            self.assert_same((wrong.kind, wrong.told()), ([(0, 1, 0), [1, [2]]],) * 2)
            self.assert_same((wrong.table, wrong.moves), ([(0, (0, 1)), ([0], [1])], [(0, 1, 0), [1, [2]]]))

    def test_decided_verdicts_stay(self):
        right = decide(Reader("rest", [(2, (2, 3), 0, None)]))
        right.listed.clear()
        self.assert_same((right.listed, right.holds()), ([(0, (0, 1))], True))
        wrong = decide(Reader("rest", [(2, (2, 3), 0, None)]), moves=True)
        moves = wrong.moves
        if isinstance(moves, list):
            moves.clear()
        self.assertGreater(len(wrong.moves), 0)
        self.assert_same(wrong.holds(), True)

    def test_marks_without_a_right_reader(self):
        for reader in whole_readers(34, 12):
            if reader.mark in ("key", "from"):
                self.assert_same(is_right(reader), False)
        self.assertEqual(len(MARKS), 6)
