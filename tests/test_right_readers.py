"""That readers which are decided to be right are right on tables, with copies and with moves as decided."""

import random

from partfirsts.readers import Reader
from partfirsts.runs import Run, judge
from partfirsts.tables import Table
from partfirsts.verdicts import is_right
from helper import Case
from model import Model, WAYS, whole_readers


def tied_table(rng, parts, *, plain, most=24):
    """A table with many ties of keys."""
    keys = rng.choice([0, 1, 3])
    rows = []
    for number in rng.sample(range(40), rng.randint(0, most)):
        lies = rng.sample(range(parts), 1 if plain else rng.randint(1, parts))
        rows.append((rng.randint(0, keys), number, tuple(sorted(lies))))
    return Table(parts, rows)


def one_part_readers():
    for mark, inner, order in WAYS:
        for size, ask, full, thin in [(1, 1, 0, None), (2, 2, 0, 0), (3, 1, None, 0), (2, 3, 0, None), (9, 2, 0, 0)]:
            yield Reader(mark, [(size, (ask,), full, thin)], inner=inner, order=order)


class RightCase(Case):
    def check_told(self, table, told):
        """Each row is told once, and the keys are ascending."""
        self.assertEqual(sorted(told), sorted(number for _, number in table.places()))
        keys = [table.place_of(number)[0] for number in told]
        self.assertEqual(keys, sorted(keys))

    def check_judged(self, reader, table, moves=()):
        kind, number, pages = judge(reader, table, moves=moves)
        self.assertEqual((kind, number), ("right", None), (reader, reader.states(), table.rows(), moves))
        self.check_told(table, [number for page in pages for _, number in page])
        self.assertEqual(Model(reader, table).judged(moves), (kind, None, pages))

    def check_with_any_moves(self, rng, reader, table, *, copies):
        """Rows are moved at random between the pages, with copies to several parts."""
        run = Run(reader, table)
        while run.state is not None:
            for row in rng.sample(table.rows(), rng.randint(0, len(table))):
                many = rng.randint(1, table.parts) if copies else 1
                run.move(row[1], *rng.sample(range(table.parts), many))
            run.page()
        self.assertEqual((run.fault, run.ended), (None, True), (reader, reader.states(), table.rows()))
        self.check_told(table, run.told())


class RightReaders(RightCase):
    def test_on_plain_tables(self):
        rng, rights = random.Random(51), 0
        for reader in [*whole_readers(52, 24), *one_part_readers()]:
            if is_right(reader):
                rights += 1
                for _ in range(3):
                    self.check_judged(reader, tied_table(rng, reader.parts, plain=True))
        self.assertGreater(rights, 200)

    def test_on_larger_plain_tables(self):
        rng = random.Random(53)
        for reader in whole_readers(54, 4):
            if is_right(reader):
                rows = [(rng.randint(0, 4), number, (rng.randrange(reader.parts),)) for number in range(80)]
                table = Table(reader.parts, rows)
                kind, _, pages = judge(reader, table)
                self.assertEqual(kind, "right")
                self.check_told(table, [number for page in pages for _, number in page])

    def test_with_copies(self):
        rng, rights = random.Random(55), set()
        for reader in [*whole_readers(56, 32), *one_part_readers()]:
            if is_right(reader, copies=True):
                rights.add((reader.mark, reader.parts > 1))
                for _ in range(3):
                    self.check_judged(reader, tied_table(rng, reader.parts, plain=False))
        for mark in ("row", "each", "count", "rest"):
            self.assertTrue({(mark, False), (mark, True)} <= rights)

    def test_with_moves(self):
        rng = random.Random(57)
        for reader in [*whole_readers(58, 40), *one_part_readers()]:
            if is_right(reader, moves=True):
                for _ in range(3):
                    table = tied_table(rng, reader.parts, plain=True)
                    numbers = [row[1] for row in table.rows()] or [0]
                    many = rng.randint(0, 6) if len(table) else 0
                    moves = [(rng.randint(0, 6), rng.choice(numbers), rng.randrange(reader.parts)) for _ in range(many)]
                    self.check_judged(reader, table, moves)
                    self.check_with_any_moves(rng, reader, table, copies=False)

    def test_with_copies_and_moves(self):
        rng, rights = random.Random(59), 0
        for reader in [*whole_readers(60, 40), *one_part_readers()]:
            if is_right(reader, copies=True, moves=True):
                rights += 1
                for _ in range(3):
                    table = tied_table(rng, reader.parts, plain=False, most=12)
                    self.check_with_any_moves(rng, reader, table, copies=True)
        self.assertGreater(rights, 30)


class ExactReaders(RightCase):
    def test_the_sorted_places_in_pages_of_the_size(self):
        rng = random.Random(61)
        for parts in range(1, 5):
            for size in range(1, 10):
                reader = Reader.exact(parts, size)
                for plain in (True, False):
                    table = tied_table(rng, parts, plain=plain, most=30)
                    places = table.places()
                    pages = [places[at:at + size] for at in range(0, len(places), size)]
                    self.assert_same(judge(reader, table), ("right", None, pages))
                    numbers = [number for _, number in places]
                    many = rng.randint(0, 5) if numbers else 0
                    moves = [(rng.randint(0, 9), rng.choice(numbers), rng.randrange(parts)) for _ in range(many)]
                    self.assert_same(judge(reader, table, moves=moves), ("right", None, pages))
                    self.check_with_any_moves(rng, reader, table, copies=not plain)

    def test_tables_without_rows(self):
        for parts in range(1, 5):
            self.assert_same(judge(Reader.exact(parts, 3), Table(parts, [])), ("right", None, []))
