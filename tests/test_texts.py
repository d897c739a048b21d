"""Which line of a text InvalidText tells."""

import random
import re

from partfirsts.errors import InvalidText, PartError
from partfirsts.notation import read_reader, read_table, reader_text, table_text
from partfirsts.readers import Reader
from partfirsts.tables import Table
from helper import ODD_VALUES, Case
from model import some_table
from test_standings import some_readers

NUMBER = "(0|-?[1-9][0-9]{0,29})"
GOAL = f"(-|{NUMBER})"
STATE = re.compile(f"state {NUMBER} {GOAL} {GOAL}( {NUMBER})+")
ROW = re.compile(f"row {NUMBER} {NUMBER}( {NUMBER})+")
HEAD = "reader row up number\n"
ONE = "state 1 0 - 1 1\n"
TABLE = "table 2\nrow 0 1 0\nrow 0 2 0 1\nrow 3 0 1\n"
# Words that are no numbers by [19].
NO_NUMBERS = [
    "", "+1", "01", "00", "-0", "-01", "--1", "1-", "1.0", "1e3", "a", "0x1", "1_0", " ", "-", "1" * 31, "-" + "1" * 31,
    "\u0661", "\u00b2",
]


def is_made(call, *args, **named):
    try:
        call(*args, **named)
    except PartError:
        return False
    return True


def wrong_line_of_table(text):
    """None, or the line that InvalidText tells, by the words of the document and by the constructor."""
    *lines, rest = text.split("\n")
    parts, rows = None, []
    for at, line in enumerate(lines):
        if at == 0:
            if not re.fullmatch("table [1-4]", line):
                return 0
            parts = int(line[-1])
            continue
        if not ROW.fullmatch(line):
            return at
        key, number, *lies = map(int, line.split()[1:])
        rows.append((key, number, tuple(lies)))
        if not is_made(Table, parts, rows) or [row[:2] for row in rows] != sorted(row[:2] for row in rows):
            return at
    return len(lines) if rest or not lines else None


def wrong_line_of_reader(text):
    *lines, rest = text.split("\n")
    states, goals = [], []
    for at, line in enumerate(lines):
        words = line.split(" ")
        if at == 0:
            if words[0] != "reader" or len(words) != 4 or not is_made(
                Reader, words[1], [(1, (1,), 0, 0)], inner=words[2], order=words[3]
            ):
                return 0
            continue
        if not STATE.fullmatch(line):
            return at
        states.append((int(words[1]), tuple(map(int, words[4:])), None, None))
        goals.append([None if word == "-" else int(word) for word in words[2:4]])
        if not is_made(Reader, "row", states):
            return at
    if rest or len(lines) < 2:
        return len(lines)
    for at, pair in enumerate(goals):
        if any(goal is not None and not 0 <= goal < len(states) for goal in pair):
            return at + 1
    return None


class TextCase(Case):
    def refused(self, text, line):
        """A text of a reader or a table that is refused with this line."""
        table = isinstance(text, str) and text.startswith("table")
        self.assert_error(InvalidText, [line], read_table if table else read_reader, text)

    def check(self, text, read, wrong_line, back):
        line = wrong_line(text)
        if line is None:
            self.assert_same(back(read(text)), text)
        else:
            self.assert_error(InvalidText, [line], read, text)
        return line


class Values(TextCase):
    def test_values_that_are_no_strings(self):
        for value in [*ODD_VALUES, 0, Reader.exact(1, 1), Table(1, []), [HEAD, ONE], b"table 2\n"]:
            if not isinstance(value, str):
                self.assert_error(InvalidText, [0], read_reader, value)
                self.assert_error(InvalidText, [0], read_table, value)

    def test_no_line(self):
        for text in ("", "table 2", "reader row up number", "x", " ", "table 2 \nrow"):
            self.assert_error(InvalidText, [0], read_reader, text)
            self.assert_error(InvalidText, [0], read_table, text)
        for text in ("\n", "\n\n", "x\n", "\n" + TABLE, "\n" + HEAD + ONE):
            self.assert_error(InvalidText, [0], read_reader, text)
            self.assert_error(InvalidText, [0], read_table, text)

    def test_texts_of_the_other_kind(self):
        self.assert_error(InvalidText, [0], read_reader, TABLE)
        self.assert_error(InvalidText, [0], read_table, HEAD + ONE)


class TableTexts(TextCase):
    def test_first_lines(self):
        for line in [
            "table", "table ", "table  2", "table 2 ", " table 2", "table 0", "table 5", "table -1", "table 2 2", "Table 2",
            "tables 2", "table two", "table 10", "reader 2", "table 2\t", "table\n2", "row 0 1 0",
            *[f"table {word}" for word in NO_NUMBERS],
        ]:
            self.assert_error(InvalidText, [0], read_table, line + "\n")
            self.assert_error(InvalidText, [0], read_table, line + "\nrow 0 1 0\nx\n")

    def test_rows(self):
        for row in [
            "", "row", "row 0", "row 0 5", "row 0 5 ", "row  0 5 0", "row 0 5  0", "row 0 5 0 ", " row 0 5 0", "Row 0 5 0",
            "rows 0 5 0", "state 0 5 0", "table 2", "0 5 0", "row 9 5 2", "row 9 5 -1", "row 9 5 0 0", "row 9 5 1 0",
            "row 9 5 0 1 2", "row 9 5 0 1 1", "row 1000000001 5 0", "row -1000000001 5 0", "row 9 -1 0", "row 9 1000000001 0",
            "row 9 5 0,1", "row 9 5 0\t1", "row - 5 0", "row 9 - 0", "row 9 5 -",
            *[f"row {word} 5 0" for word in NO_NUMBERS], *[f"row 9 {word} 0" for word in NO_NUMBERS],
            *[f"row 9 5 {word}" for word in NO_NUMBERS], *[f"row 9 5 0 {word}" for word in NO_NUMBERS],
        ]:
            self.refused("table 2\n" + row + "\n", 1)
            self.refused(TABLE + row + "\n", 4)
            self.refused(TABLE + row + "\nrow 9 9 9\nx", 4)

    def test_rows_with_the_lines_above(self):
        for row in ["row 3 0 0", "row 9 0 0", "row 9 1 1", "row 9 2 1", "row 2 9 0", "row -3 9 0", "row 2 0 0"]:
            self.refused(TABLE + row + "\n", 4)
        for row in ["row 3 3 0", "row 3 1000000000 1", "row 4 3 0 1", "row 1000000000 1000000000 1"]:
            self.assertEqual(len(read_table(TABLE + row + "\n")), 4)
        self.refused("table 2\nrow 0 2 0\nrow 0 1 0\n", 2)
        self.refused("table 2\nrow 0 2 0\nrow 0 2 0\n", 2)
        self.refused("table 2\nrow 0 2 0\nrow -1 3 0\n", 2)

    def test_a_301st_row(self):
        lines = [f"row {number} {number} 0\n" for number in range(302)]
        text = "table 1\n" + "".join(lines[:300])
        self.assertEqual(len(read_table(text)), 300)
        for more in [lines[300], lines[300] + lines[301], "x\n", lines[300] + "x\n", lines[0], "\n"]:
            self.refused(text + more, 301)
            self.refused(text + more + "x", 301)
        self.refused(text + "row 300 300 0", 301)
        self.refused(text.replace("row 7 7 0", "row 7 7 1") + lines[300], 8)

    def test_characters_behind_the_last_line_feed(self):
        self.refused(TABLE + "row 5 5 0", 4)
        self.refused(TABLE[:-1], 3)
        self.refused(TABLE + " ", 4)
        self.refused(TABLE + "x", 4)
        self.refused("table 2\nx", 1)
        self.refused("table 2\nrow 0 1 2\nx", 1)
        self.assertEqual(len(read_table(TABLE)), 3)
        self.refused(TABLE + "\n", 4)

    def test_the_texts_beside(self):
        for text in [
            "table 1\n", "table 4\n", "table 2\nrow -1000000000 0 0\n", "table 2\nrow 1000000000 1000000000 0 1\n",
            "table 4\nrow 0 0 0 1 2 3\nrow 0 1 3\n", "table 1\nrow -5 5 0\nrow -5 6 0\nrow -4 0 0\n",
        ]:
            self.assert_same(table_text(read_table(text)), text)


class ReaderTexts(TextCase):
    def test_first_lines(self):
        for line in [
            "reader", "reader row", "reader row up", "reader row up number ", " reader row up number", "reader  row up number",
            "reader row up number number", "reader Row up number", "reader row number up", "reader up row number",
            "reader row up up", "reader row left number", "Reader row up number", "table row up number", "reader row up",
            "reader rows up number", "reader row up  number", "reader row up -", "reader - up number", "reader row up numbe",
        ]:
            self.assert_error(InvalidText, [0], read_reader, line + "\n")
            self.assert_error(InvalidText, [0], read_reader, line + "\n" + ONE + "x\n")

    def test_states(self):
        for state in [
            "", "state", "state 1", "state 1 0", "state 1 0 -", "state 1 0 - ", "state  1 0 - 1 1", "state 1 0 - 1 1 ",
            " state 1 0 - 1 1", "State 1 0 - 1 1", "row 1 0 - 1 1", "reader row up number", "1 0 - 1 1", "state 0 0 - 1 1",
            "state 10 0 - 1 1", "state -1 0 - 1 1", "state - 0 - 1 1", "state 1 0 - 0 1", "state 1 0 - 1 10", "state 1 0 - 1 -1",
            "state 1 0 - - 1", "state 1 0 - 1 -", "state 1 0 - 1  1", "state 1 0 - 1 1 1 1 1", "state 1 - 1 - 1 1", "state 1 -- - 1 1",
            "state 1 0 None 1 1", "state 1,0,-,1,1",
            *[f"state {word} 0 - 1 1" for word in NO_NUMBERS], *[f"state 1 0 - {word} 1" for word in NO_NUMBERS],
            *[f"state 1 {word} - 1 1" for word in NO_NUMBERS if word != "-"],
            *[f"state 1 0 {word} 1 1" for word in NO_NUMBERS if word != "-"],
        ]:
            self.refused(HEAD + state + "\n", 1)
            self.refused(HEAD + ONE + state + "\n", 2)
            self.refused(HEAD + ONE * 5 + state + "\n" + ONE + "x", 6)
            # Goals that are no states are looked at behind all else.
            self.refused(HEAD + "state 1 7 -3 1 1\n" + state + "\n", 2)

    def test_other_numbers_of_asks(self):
        for asks in ["1", "1 1 1", "1 1 1 1"]:
            self.refused(HEAD + ONE + f"state 1 0 - {asks}\n" + ONE, 2)
            self.refused(HEAD + f"state 1 0 - {asks}\n" + ONE, 2)
            self.assertEqual(len(read_reader(HEAD + f"state 1 0 - {asks}\n")), 1)

    def test_a_seventh_state(self):
        self.assertEqual(len(read_reader(HEAD + ONE * 6)), 6)
        for more in [ONE, ONE * 2, "x\n", ONE + "x\n", "\n", "state 1 9 9 1 1\n"]:
            self.refused(HEAD + ONE * 6 + more, 7)
            self.refused(HEAD + ONE * 6 + more + "x", 7)
            self.refused(HEAD + "state 1 9 - 1 1\n" + ONE * 5 + more, 7)
        self.refused(HEAD + ONE * 5 + "state 1 0 - 1\n" + ONE, 6)
        self.refused(HEAD + "state 1 6 - 1 1\n" + ONE * 6, 7)

    def test_a_missing_state_and_characters_behind(self):
        self.refused(HEAD, 1)
        self.refused(HEAD + "x", 1)
        self.refused(HEAD + ONE[:-1], 1)
        self.refused(HEAD + ONE + "x", 2)
        self.refused(HEAD + ONE + ONE[:-1], 2)
        self.refused(HEAD + ONE * 2 + " ", 3)
        self.refused(HEAD + ONE * 2 + "\n", 3)
        self.refused(HEAD + "state 1 7 - 1 1\nx", 2)
        self.refused(HEAD + ONE + "state 1 0 -1 1 1\n" + "x", 3)

    def test_goals(self):
        for goal in ["1", "2", "6", "9", "-1", "-2", "1" * 30, "-" + "9" * 30]:
            for state in [f"state 1 {goal} - 1 1\n", f"state 1 - {goal} 1 1\n", f"state 1 {goal} {goal} 1 1\n"]:
                self.refused(HEAD + state, 1)
            for at, goals in enumerate([f"{goal} 0", f"0 {goal}"]):
                if int(goal) != 1:
                    self.refused(HEAD + ONE + f"state 1 {goals} 1 1\n", 2)
                    self.refused(HEAD + f"state 1 {goals} 1 1\n" + ONE, 1)
                    self.refused(HEAD + f"state 1 {goals} 1 1\nstate 1 5 5 1 1\n", 1)
        # A number has up to 30 digits, and is looked at behind all else; a longer word is none.
        for sign in ("", "-"):
            self.refused(HEAD + f"state 1 {sign}{'9' * 30} 0 1 1\nx\n", 2)
            self.refused(HEAD + f"state 1 0 {sign}{'9' * 31} 1 1\nx\n", 1)
        self.refused(HEAD + "state 1 1 2 1 1\nstate 1 2 1 1 1\n", 1)
        self.refused(HEAD + "state 1 1 0 1 1\nstate 1 2 1 1 1\n", 2)
        self.refused(HEAD + ONE * 4 + "state 1 0 6 1 1\nstate 1 -7 0 1 1\n", 5)

    def test_goals_of_later_lines(self):
        for many in range(1, 7):
            text = HEAD + "".join(f"state 1 {many - 1 - at} {many - 1} 1 1\n" for at in range(many))
            self.assert_same(reader_text(read_reader(text)), text)
            self.refused(text.replace(f" {many - 1} 1 1\n", f" {many} 1 1\n"), 1)

    def test_the_texts_beside(self):
        for text in [
            HEAD + ONE, HEAD + "state 9 - - 9 9 9 9\n", HEAD + "state 1 0 0 1\n", "reader key down part\n" + ONE * 2,
        ]:
            self.assert_same(reader_text(read_reader(text)), text)


class BentTexts(TextCase):
    def bent(self, rng, text):
        """The text with one to three small changes."""
        for _ in range(rng.randint(1, 3)):
            lines = text.split("\n")
            at, other = rng.randrange(len(lines)), rng.randrange(len(lines))
            words = lines[at].split(" ")
            where = rng.randrange(len(words))
            change = rng.randrange(7)
            if change == 0:
                words[where] = rng.choice(["", "-", "0", "1", "2", "3", "7", "-1", "x", "10", "01", "1" * 31])
            elif change == 1:
                words.insert(where, rng.choice(["", "0", "1", "-", "x"]))
            elif change == 2:
                del words[where]
            lines[at] = " ".join(words)
            if change == 3:
                lines[at], lines[other] = lines[other], lines[at]
            elif change == 4:
                lines.insert(at, lines[other])
            elif change == 5:
                del lines[at]
            text = "\n".join(lines)
            if change == 6:
                cut = rng.randint(0, len(text))
                text = text[:cut] + rng.choice(["", " ", "\n", "1", "-"]) + text[cut + rng.randint(0, 1):]
        return text

    def test_tables(self):
        rng, seen = random.Random(121), {}
        for _ in range(1500):
            text = table_text(some_table(rng, rng.randint(1, 4)))
            line = self.check(self.bent(rng, text), read_table, wrong_line_of_table, table_text)
            seen[line] = seen.get(line, 0) + 1
        self.assertTrue(all(seen.get(line, 0) > 10 for line in (None, 0, 1, 2, 3, 4, 5)), seen)

    def test_readers(self):
        rng, seen = random.Random(122), {}
        for reader in some_readers(123, 40):
            line = self.check(self.bent(rng, reader_text(reader)), read_reader, wrong_line_of_reader, reader_text)
            seen[line] = seen.get(line, 0) + 1
        self.assertTrue(all(seen.get(line, 0) > 10 for line in (None, 0, 1, 2, 3)), seen)
