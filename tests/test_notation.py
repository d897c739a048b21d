import random

from partfirsts.notation import page_table, read_reader, read_table, reader_text, table_text
from partfirsts.readers import Reader
from partfirsts.runs import judge
from partfirsts.tables import Table
from helper import Case
from model import WAYS, readers_on_tables, some_table
from test_standings import some_readers


def reader_text_by_the_words(reader):
    text = f"reader {reader.mark} {reader.inner} {reader.order}\n"
    for size, asks, full, thin in reader.states():
        goals = ["-" if goal is None else str(goal) for goal in (full, thin)]
        text += f"state {size} {goals[0]} {goals[1]} {' '.join(map(str, asks))}\n"
    return text


def table_text_by_the_words(table):
    rows = [f"row {key} {number} {' '.join(map(str, parts))}\n" for key, number, parts in sorted(table.rows())]
    return f"table {table.parts}\n" + "".join(rows)


class ReaderTexts(Case):
    def test_few_readers(self):
        for reader, text in [
            (Reader.exact(2, 2), "reader row up number\nstate 2 0 - 2 2\n"),
            (Reader("rest", [(9, (9,), None, 0)], inner="down", order="back"), "reader rest down back\nstate 9 - 0 9\n"),
            (
                Reader("key", [(1, (1, 2, 3, 4), 1, None), (2, (4, 3, 2, 1), None, 0)], order="part"),
                "reader key up part\nstate 1 1 - 1 2 3 4\nstate 2 - 0 4 3 2 1\n",
            ),
            (
                Reader("from", [(1, (1,), 5, 4)] * 6),
                "reader from up number\n" + "state 1 5 4 1\n" * 6,
            ),
        ]:
            self.assert_same(reader_text(reader), text)
            self.assertEqual(read_reader(text), reader)

    def test_all_readers(self):
        for reader in some_readers(111, 20):
            text = reader_text(reader)
            self.assert_same(text, reader_text_by_the_words(reader))
            self.assertEqual(read_reader(text), reader)
            self.assert_same(read_reader(text).states(), reader.states())
        self.assertEqual(len(WAYS), 36)

    def test_by_name(self):
        text = reader_text(reader=Reader.exact(1, 1))
        self.assertEqual(read_reader(text=text), Reader.exact(1, 1))


class TableTexts(Case):
    def test_few_tables(self):
        for table, text in [
            (Table(1, []), "table 1\n"),
            (Table(4, []), "table 4\n"),
            (
                Table(3, [(5, 1, (0, 2)), (-7, 20, (1,)), (5, 0, (0, 1, 2))]),
                "table 3\nrow -7 20 1\nrow 5 0 0 1 2\nrow 5 1 0 2\n",
            ),
            (
                Table(2, [(10 ** 9, 10 ** 9, (1,)), (-10 ** 9, 0, (0,))]),
                "table 2\nrow -1000000000 0 0\nrow 1000000000 1000000000 1\n",
            ),
        ]:
            self.assert_same(table_text(table), text)
            self.assertEqual(read_table(text), table)

    def test_drawn_tables(self):
        rng = random.Random(112)
        for _ in range(200):
            table = some_table(rng, rng.randint(1, 4))
            text = table_text(table)
            self.assert_same(text, table_text_by_the_words(table))
            self.assertEqual(read_table(text), table)

    def test_the_most_rows(self):
        rows = [(-10 ** 9 + number, 10 ** 9 - number, (0, 1, 2, 3)) for number in range(300)]
        text = table_text(Table(4, rows))
        self.assertEqual(text.count("\n"), 301)
        self.assert_same(read_table(text).rows(), rows)

    def test_by_name(self):
        text = table_text(table=Table(2, [(0, 1, (0,))]))
        self.assertEqual(read_table(text=text), Table(2, [(0, 1, (0,))]))


class PageTables(Case):
    def test_no_places(self):
        for pages in ([], (), [[]], [[], ()]):
            self.assert_same(page_table(pages), "")

    def test_columns(self):
        self.assert_same(page_table(pages=[[(0, 1), (-5, 20)], [(1000000000, 1000000000)]]), (
            "   0           0          1\n"
            "   0          -5         20\n"
            "   1  1000000000 1000000000\n"
        ))
        self.assert_same(page_table(([], ((-1000000000, 0),))), "   1 -1000000000          0\n")

    def test_pages_of_a_run(self):
        table = Table(2, [(0, 1, (0,)), (0, 2, (0,)), (1, 3, (1,))])
        self.assert_same(page_table(judge(Reader.exact(2, 2), table)[2]), (
            "   0           0          1\n   0           0          2\n   1           1          3\n"
        ))

    def test_widths(self):
        pages = [[(at, 10 * at)] for at in range(400)]
        lines = page_table(pages).split("\n")
        self.assertEqual((len(lines), lines.pop()), (401, ""))
        for at, line in enumerate(lines):
            self.assertEqual(len(line), 27)
            self.assertEqual((int(line[:4]), int(line[4:16]), int(line[16:])), (at, at, 10 * at))
        self.assert_same(lines[399], " 399         399       3990")
        for reader, table, _ in readers_on_tables(113, 2):
            pages = judge(reader, table)[2]
            wanted = [str(at).rjust(4) + str(k).rjust(12) + str(n).rjust(11) + "\n" for at, p in enumerate(pages) for k, n in p]
            self.assert_same(page_table(pages), "".join(wanted))

    def test_long_pages(self):
        pages = [[(number, number) for number in range(300)]] * 2
        self.assertEqual(page_table(pages).count("\n"), 600)
        self.assert_same(page_table([[]] * 12345 + [[(0, 0)]]), "12345           0          0\n")
