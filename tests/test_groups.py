import itertools
import random

from partfirsts.errors import InvalidAsk, InvalidGroup, InvalidNumber, InvalidPart, InvalidWay
from partfirsts.groups import WAYS, group_parts, told_first, true_first
from helper import ODD_VALUES, Case

PARTS = [[(5, "a"), (-2, "b"), (3, "c")], [(1, "a"), (4, "d"), (3, "b")], []]
NO_PARTS = [
    None, True, 0, "", "ab", (1, "a"), [1], [None], [(1,)], [("a", 1)], [(1, "a", 2)], [[1, "a"]], [(True, "a")],
    [(None, "a")], [("1", "a")], [(1.0, "a")], [(1, "")], [(1, "A")], [(1, "abcdefghi")], [(1, "a1")], [(1, None)],
    [(1, ("a",))], [(1, ["a"])], [(1, "a"), (2, "a")], [(1, "a"), (1, "b"), (1, "a")], [(1, "a"), None], {}, {(1, "a"): 1},
]


def totals_by_the_words(parts, size, way):
    join = {"least": min, "greatest": max, "sum": sum}[way]
    names = sorted({name for part in parts for _, name in part})
    return sorted((join([value for part in parts for value, other in part if other == name]), name) for name in names)[:size]


def told_by_the_words(parts, ask, size, way):
    return totals_by_the_words([[pair for at, pair in enumerate(sorted(part)) if at < ask] for part in parts], size, way)


def some_parts(rng):
    spread = rng.choice([1, 3, 10])
    return [
        [(rng.randint(-spread, spread), name) for name in rng.sample("abcdefghijkl", rng.randint(0, 12))]
        for _ in range(rng.randint(1, 4))
    ]


class Totals(Case):
    def test_ways(self):
        self.assert_same(WAYS, ("least", "greatest", "sum"))
        for way, pairs in [
            ("least", [(-2, "b"), (1, "a"), (3, "c"), (4, "d")]),
            ("greatest", [(3, "b"), (3, "c"), (4, "d"), (5, "a")]),
            ("sum", [(1, "b"), (3, "c"), (4, "d"), (6, "a")]),
        ]:
            for size in range(1, 10):
                self.assert_same(true_first(PARTS, size, way), pairs[:size])
                self.assert_same(told_first(PARTS, 9, size, way), pairs[:size])

    def test_told_of_what_is_sent(self):
        for way, ask, pairs in [
            ("least", 1, [(-2, "b"), (1, "a")]), ("greatest", 1, [(-2, "b"), (1, "a")]),
            ("sum", 1, [(-2, "b"), (1, "a")]), ("least", 2, [(-2, "b"), (1, "a"), (3, "c")]),
            ("greatest", 2, [(1, "a"), (3, "b"), (3, "c")]), ("sum", 2, [(1, "a"), (1, "b"), (3, "c")]),
        ]:
            self.assert_same(told_first(PARTS, ask, 9, way), pairs)

    def test_by_the_words(self):
        rng = random.Random(101)
        for _ in range(300):
            parts, ask, size = some_parts(rng), rng.randint(1, 9), rng.randint(1, 9)
            for way in WAYS:
                self.assert_same(true_first(parts, size, way), totals_by_the_words(parts, size, way))
                self.assert_same(told_first(parts, ask, size, way), told_by_the_words(parts, ask, size, way))

    def test_the_fact(self):
        rng = random.Random(102)
        for _ in range(300):
            parts, size = some_parts(rng), rng.randint(1, 9)
            ask = rng.randint(size, 9)
            self.assert_same(told_first(parts, ask, size, "least"), true_first(parts, size, "least"))
            for way in WAYS:
                self.assert_same(told_first(parts[:1], ask, size, way), true_first(parts[:1], size, way))

    def test_no_groups_and_great_values(self):
        for way in WAYS:
            self.assert_same((true_first([[]], 9, way), told_first([[], []], 1, 1, way)), ([], []))
            great = [[(10 ** 29, "abcdefgh")], [(-10 ** 29, "z")]]
            self.assert_same(true_first(great, 9, way), [(-10 ** 29, "z"), (10 ** 29, "abcdefgh")])
        self.assert_same(true_first([[(10 ** 29, "a")], [(10 ** 29, "a")]], 1, "sum"), [(2 * 10 ** 29, "a")])

    def test_what_is_passed_stays(self):
        parts = [list(part) for part in PARTS]
        true_first(parts, 1, "sum").clear()
        told_first(parts, 1, 1, "sum").clear()
        self.assert_same(parts, PARTS)
        as_tuples = tuple(tuple(part) for part in PARTS)
        self.assert_same(true_first(as_tuples, 9, "sum"), true_first(PARTS, 9, "sum"))
        self.assert_same(told_first(way="sum", size=9, ask=1, parts=as_tuples), told_first(PARTS, 1, 9, "sum"))
        self.assert_same(true_first(way="sum", size=9, parts=as_tuples), true_first(PARTS, 9, "sum"))


class GroupErrors(Case):
    def test_groups(self):
        for value in NO_PARTS:
            for at in range(4):
                parts = [PARTS[0]] * at + [value]
                self.assert_error(InvalidGroup, [at], true_first, parts, 0, "none")
                self.assert_error(InvalidGroup, [at], told_first, parts + [value], 0, 0, "none")
                self.assert_error(InvalidGroup, [at], told_first, tuple(parts), 1, 1, "sum")

    def test_numbers_and_ways(self):
        for value in [*ODD_VALUES, 0, 10, -1, 10 ** 29]:
            self.assert_error(InvalidAsk, [value], told_first, PARTS, value, 0, "none")
            self.assert_error(InvalidNumber, [value], told_first, PARTS, 1, value, "none")
            self.assert_error(InvalidNumber, [value], true_first, PARTS, value, "none")
            self.assert_error(InvalidAsk, [value], group_parts, 1, value, 0, "none")
            self.assert_error(InvalidNumber, [value], group_parts, 4, 1, value, "none")
        for value in [*ODD_VALUES, 0, "Sum", "sum ", ("sum",)]:
            self.assert_error(InvalidWay, [value], true_first, PARTS, 1, value)
            self.assert_error(InvalidWay, [value], told_first, PARTS, 9, 9, value)
            self.assert_error(InvalidWay, [value], group_parts, 1, 1, 1, value)
        for value in [*ODD_VALUES, 0, 5, -1, 10 ** 29]:
            self.assert_error(InvalidPart, [value], group_parts, value, 0, 0, "none")


class GroupParts(Case):
    def test_all_numbers_and_ways(self):
        for many, ask, size, way in itertools.product(range(1, 5), range(1, 10), range(1, 10), WAYS):
            parts = group_parts(many, ask, size, way)
            self.assertIs(parts is None, ask >= size and (many == 1 or way == "least"))
            if parts is not None:
                self.assertEqual((parts.__class__, len(parts)), (list, many))
                self.assertNotEqual(told_first(parts, ask, size, way), true_first(parts, size, way))
                self.assertNotEqual(told_by_the_words(parts, ask, size, way), totals_by_the_words(parts, size, way))

    def test_new_lists(self):
        parts = group_parts(2, 1, 1, "sum")
        wanted = [list(part) for part in parts]
        for part in parts:
            part.clear()
        self.assert_same(group_parts(way="sum", size=1, ask=1, many=2), wanted)
