"""Notation: the texts of readers and tables, and pages as a table of text."""

from partfirsts.errors import InvalidText
from partfirsts.readers import Reader, is_state
from partfirsts.tables import Table, is_row
from partfirsts.words import is_number

_MOST_DIGITS = 30


def number_of(word):
    """The number that a word is, or None if it is none."""
    digits = word[1:] if word.startswith("-") else word
    if not 1 <= len(digits) <= _MOST_DIGITS or not all(["0" <= sign <= "9" for sign in digits]):
        return None
    if digits.startswith("0") and word != "0":
        return None
    return int(word)


def _line(words):
    return " ".join([str(word) for word in words]) + "\n"


def _goal(following):
    return "-" if following is None else following


def reader_text(reader):
    """The text of a reader."""
    lines = [_line(["reader", reader.mark, reader.inner, reader.order])]
    for size, asks, full, thin in reader.states():
        lines.append(_line(["state", size, _goal(full), _goal(thin), *asks]))
    return "".join(lines)


def table_text(table):
    """The text of a table."""
    lines = [_line(["table", table.parts])]
    for key, number, parts in table.rows():
        lines.append(_line(["row", key, number, *parts]))
    return "".join(lines)


def page_table(pages):
    """A line for each place of each page: the index of the page, the key and the number in columns."""
    lines = []
    for at, page in enumerate(pages):
        for key, number in page:
            lines.append(f"{at:>4}{key:>12}{number:>11}\n")
    return "".join(lines)


def read_reader(text):
    """The reader that has this text."""
    lines, rest = _split(text)
    if len(lines) == 0:
        raise InvalidText(0)
    mark, inner, order = _read_head(lines[0])
    states = []
    for at, line in enumerate(lines[1:], start=1):
        state = _state_of(line)
        if state is None or at > Reader.MOST_STATES or (at > 1 and len(state[1]) != len(states[0][1])):
            raise InvalidText(at)
        states.append(state)
    if rest != "" or len(states) == 0:
        raise InvalidText(len(lines))
    _check_goals(states)
    return Reader(mark, states, inner=inner, order=order)


def read_table(text):
    """The table that has this text."""
    lines, rest = _split(text)
    if len(lines) == 0:
        raise InvalidText(0)
    parts = _read_parts(lines[0])
    rows = []
    numbers = {}
    for at, line in enumerate(lines[1:], start=1):
        row = _row_of(line, parts)
        if row is None or at > Table.MOST_ROWS or row[1] in numbers:
            raise InvalidText(at)
        # Numbers differ, so the order of the rows is that of their places.
        if at > 1 and row < rows[-1]:
            raise InvalidText(at)
        rows.append(row)
        numbers[row[1]] = True
    if rest != "":
        raise InvalidText(len(lines))
    return Table(parts, rows)


def _split(text):
    """The lines that end with a line feed, and the characters behind the last one."""
    if not isinstance(text, str):
        raise InvalidText(0)
    lines = text.split("\n")
    rest = lines.pop()
    return lines, rest


def _read_head(line):
    """The mark, the inner and the middle order of the first line of a reader."""
    words = line.split(" ")
    if (
        len(words) != 4
        or words[0] != "reader"
        or words[1] not in Reader.MARKS
        or words[2] not in Reader.INNER
        or words[3] not in Reader.ORDERS
    ):
        raise InvalidText(0)
    return words[1:]


def _read_parts(line):
    """The number of parts of the first line of a table."""
    words = line.split(" ")
    if len(words) == 2 and words[0] == "table":
        parts = number_of(words[1])
        if is_number(parts, 1, Table.MOST_PARTS):
            return parts
    raise InvalidText(0)


def _state_of(line):
    """The state of a line, wherever its goals lead, or None if the line is not of its form."""
    words = line.split(" ")
    if len(words) < 5 or words[0] != "state":
        return None
    if any([word != "-" and number_of(word) is None for word in words[2:4]]):
        return None
    size, full, thin, *asks = [number_of(word) for word in words[1:]]
    if not is_state((size, tuple(asks), None, None), 1):
        return None
    return (size, tuple(asks), full, thin)


def _row_of(line, parts):
    """The row of a line, or None if the line is not of its form."""
    words = line.split(" ")
    if len(words) < 4 or words[0] != "row":
        return None
    key, number, *lies = [number_of(word) for word in words[1:]]
    row = (key, number, tuple(lies))
    return row if is_row(row, parts) else None


def _check_goals(states):
    """InvalidText for the line of the first state that leads to none of the states."""
    for at, (_, _, full, thin) in enumerate(states, start=1):
        for following in (full, thin):
            if following is not None and not is_number(following, 0, len(states) - 1):
                raise InvalidText(at)
