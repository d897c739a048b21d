"""A second way to work out what a run does, straight from the words of the document, and readers and tables for it."""

import itertools
import random

from partfirsts.readers import Reader
from partfirsts.tables import Table

MARKS = ("key", "from", "row", "each", "count", "rest")
INNER = ("up", "down")
ORDERS = ("number", "back", "part")
WAYS = list(itertools.product(MARKS, INNER, ORDERS))


class Model:
    """A run that keeps for each row its key and its parts, and for each told row the parts at that time."""

    def __init__(self, reader, table):
        self.mark, self.inner, self.order = reader.mark, reader.inner, reader.order
        self.states = reader.states()
        self.parts = table.parts
        self.keys = {number: key for key, number, _ in table.rows()}
        self.lies = {number: set(parts) for _, number, parts in table.rows()}
        self.told, self.told_of, self.pages = [], {}, []
        self.state, self.fault = 0, None

    def place(self, number):
        return (self.keys[number], number)

    def places(self, numbers):
        return [self.place(number) for number in numbers]

    def in_inner_order(self, numbers):
        sign = 1 if self.inner == "up" else -1
        return sorted(numbers, key=lambda number: (self.keys[number], sign * number))

    def rows_in(self, part):
        return self.in_inner_order([number for number in self.lies if part in self.lies[number]])

    def left_out(self, part):
        if not self.told:
            return set()
        last = self.told[-1]
        here = [number for number in self.told if part in self.told_of[number]]
        rows = self.rows_in(part)
        if self.mark == "count":
            return set(rows[:len(here)])
        return {
            number for number in rows
            if (self.mark == "key" and self.keys[number] <= self.keys[last])
            or (self.mark == "from" and self.keys[number] < self.keys[last])
            or (self.mark == "row" and self.place(number) <= self.place(last))
            or (self.mark == "each" and any(self.place(number) <= self.place(other) for other in here))
            or (self.mark == "rest" and number in here)
        }

    def open_rows(self, part):
        gone = self.left_out(part)
        return [number for number in self.rows_in(part) if number not in gone]

    def sent(self, part):
        return [] if self.state is None else self.open_rows(part)[:self.states[self.state][1][part]]

    def at_hand(self):
        sent = [self.sent(part) for part in range(self.parts)]
        keys = {
            "number": lambda number: number,
            "back": lambda number: -number,
            "part": lambda number: (min(part for part in range(self.parts) if number in sent[part]), number),
        }
        return sorted(set().union(*sent), key=lambda number: (self.keys[number], keys[self.order](number)))

    def least(self, numbers):
        return min(numbers, key=self.place)

    def fault_ahead(self):
        opened = set().union(*[self.open_rows(part) for part in range(self.parts)])
        lost = set(self.lies) - set(self.told) - opened
        if lost:
            return ("lost", self.least(lost))
        twice = set(self.told) & opened
        return ("twice", self.least(twice)) if twice else None

    def fault_behind(self):
        untold = set(self.lies) - set(self.told)
        if any(self.keys[one] > self.keys[other] for one in self.told for other in untold):
            return ("late", self.least(untold))
        return ("left", self.least(untold)) if untold and self.state is None else None

    def page(self):
        self.fault = self.fault_ahead()
        if self.fault:
            self.state = None
            return None
        size, _, full, thin = self.states[self.state]
        page = self.at_hand()[:size]
        self.told.extend(page)
        self.told_of.update({number: set(self.lies[number]) for number in page})
        self.state = None if not page else full if len(page) == size else thin
        if page:
            self.pages.append(self.places(page))
            self.fault = self.fault_behind()
        if self.fault:
            self.state = None
        return self.places(page)

    def judged(self, moves=()):
        while self.state is not None:
            for count, number, part in moves:
                if count == len(self.pages):
                    self.lies[number] = {part}
            self.page()
        return ("right", None, self.pages) if self.fault is None else (*self.fault, self.pages)


def some_states(rng, parts, most=4):
    """One to three states with small sizes and asks."""
    many = rng.choice([1, 1, 2, 3])
    following = [None, *range(many), *range(many)]
    return [
        (
            rng.randint(1, most), tuple(rng.randint(1, most) for _ in range(parts)),
            rng.choice(following), rng.choice(following),
        )
        for _ in range(many)
    ]


def whole_states(rng, parts):
    """States that ask each part for a page or more, and that go on behind full pages."""
    many = rng.choice([1, 1, 2, 3])
    states = []
    for _ in range(many):
        size = rng.choice([1, 1, 2, 3])
        more = rng.choice([0, 0, 2])
        asks = tuple(rng.randint(size, size + more) for _ in range(parts))
        states.append((size, asks, rng.randrange(many), rng.choice([None, *range(many)])))
    return states


def whole_readers(seed, rounds):
    """Readers of all marks and orders, many of which are right."""
    rng = random.Random(seed)
    for at in range(rounds):
        states = whole_states(rng, at % 4 + 1)
        for mark, inner, order in WAYS:
            yield Reader(mark, states, inner=inner, order=order)


def some_table(rng, parts, *, plain=False, most=9):
    """A table of few rows with ties of keys."""
    numbers = rng.sample(range(20), rng.randint(0, most))
    keys = rng.choice([0, 1, 2, 5])
    rows = []
    for number in numbers:
        lies = rng.sample(range(parts), 1 if plain else rng.randint(1, parts))
        rows.append((rng.randint(0, keys), number, tuple(sorted(lies))))
    return Table(parts, rows)


def some_moves(rng, table):
    """Few moves of rows of the table, in any order of counts."""
    numbers = [row[1] for row in table.rows()]
    if not numbers:
        return []
    return [
        (rng.randint(0, 4), rng.choice(numbers), rng.randrange(table.parts)) for _ in range(rng.randint(0, 4))
    ]


def readers_on_tables(seed, rounds, *, plain=False):
    """Readers of all marks and orders, each with a table; always the same ones for a seed."""
    rng = random.Random(seed)
    for _ in range(rounds):
        parts = rng.choice([1, 2, 2, 3, 4])
        states = some_states(rng, parts)
        for mark, inner, order in WAYS:
            yield Reader(mark, states, inner=inner, order=order), some_table(rng, parts, plain=plain), rng
