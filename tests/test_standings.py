import inspect
import itertools
import random

from partfirsts.errors import InvalidStanding
from partfirsts.readers import Reader
from partfirsts.standings import first_standing, kinds_at, standings, steps
from helper import ODD_VALUES, Case
from model import MARKS, WAYS, some_states

TWO = [(3, (1, 2), 1, 0), (2, (1, 1), None, 1)]
# No standings of a reader with two states and three parts.
NO_STANDINGS = [
    *ODD_VALUES, 0, 1, "standing",
    [0, (0, 1)], (0, [0, 1]), (0, (0, 1), 0), ((0, 1), 0), (0, 0), (0, None), (0, "01"), (0, "0"), (0, True),
    (2, (0, 1)), (-1, (0, 1)), (True, (0, 1)), (False, (0,)), (None, (0, 1)), ("0", (0, 1)), ((0,), (0, 1)),
    (10 ** 29, ()), (2, ()), (True, ()),
    (0, (3,)), (0, (0, 3)), (0, (-1,)), (0, (-1, 0)), (0, (1, 0)), (0, (0, 0)), (0, (0, 1, 1)), (0, (0, 2, 1)),
    (0, (False,)), (0, (0, True)), (0, (None,)), (0, ("0",)), (0, ((0,),)), (0, ([0],)), (0, (0, "a")),
    (0, (10 ** 29,)), (0, (0, 1, 2, 3)),
]


def subsets(parts):
    return [some for many in range(len(parts) + 1) for some in itertools.combinations(parts, many)]


def all_standings(reader):
    return [(state, live) for state in range(len(reader)) for live in subsets(range(reader.parts))]


def steps_by_the_words(reader, standing):
    """Point [11] again, in its own words."""
    state, live = standing
    k, asks, full, thin = reader.states()[state]
    if reader.mark == "from" or live == ():
        return []
    found = set()
    if full is not None and sum(asks[part] for part in live) >= k:
        found.add((full, live))
    if thin is not None and k >= 2:
        found |= {(thin, some) for some in subsets(live) if sum(asks[part] for part in some) < k}
    return sorted(found)


def some_readers(seed, rounds):
    rng = random.Random(seed)
    for _ in range(rounds):
        states = some_states(rng, rng.randint(1, 4), most=rng.choice([2, 4, 9]))
        for mark, inner, order in WAYS:
            yield Reader(mark, states, inner=inner, order=order)


class FirstStanding(Case):
    def test_state_0_and_all_parts(self):
        for parts in range(1, 5):
            for mark in MARKS:
                reader = Reader(mark, [(1, (1,) * parts, 1, 1), (2, (9,) * parts, None, 0)])
                self.assert_same(first_standing(reader), (0, tuple(range(parts))))
                self.assert_same(first_standing(reader=reader), first_standing(reader))


class Steps(Case):
    def test_behind_full_and_thin_pages(self):
        for mark in ("key", "row", "each", "count", "rest"):
            reader = Reader(mark, TWO)
            self.assert_same(steps(reader, (0, (0, 1))), [(0, ()), (0, (0,)), (0, (1,)), (1, (0, 1))])
            self.assert_same(steps(reader, (0, (0,))), [(0, ()), (0, (0,))])
            self.assert_same(steps(reader, (0, (1,))), [(0, ()), (0, (1,))])
            self.assert_same(steps(reader, (1, (0, 1))), [(1, ()), (1, (0,)), (1, (1,))])
            self.assert_same(steps(reader=reader, standing=(1, (1,))), [(1, ()), (1, (1,))])

    def test_the_sum_of_the_asks_and_the_size(self):
        for size in range(1, 10):
            for ask in range(1, 10):
                for other in range(1, 10):
                    reader = Reader("row", [(size, (ask, other), 1, None), (1, (1, 1), None, None)])
                    self.assert_same(steps(reader, (0, (0, 1))), [(1, (0, 1))] if ask + other >= size else [])
                    self.assert_same(steps(reader, (0, (1,))), [(1, (1,))] if other >= size else [])
                    reader = Reader("row", [(size, (ask, other), None, 1), (1, (1, 1), None, None)])
                    some = [live for live, many in (((0,), ask), ((0, 1), ask + other), ((1,), other)) if many < size]
                    wanted = [(1, ())] + [(1, live) for live in some] if size >= 2 else []
                    self.assert_same(steps(reader, (0, (0, 1))), wanted)

    def test_no_duplicates(self):
        reader = Reader("row", [(3, (1, 1, 1), 0, 0)])
        some = [(), (0,), (0, 1), (0, 1, 2), (0, 2), (1,), (1, 2), (2,)]
        self.assert_same(steps(reader, (0, (0, 1, 2))), [(0, live) for live in some])
        reader = Reader("row", [(4, (1, 1, 1), 0, 0)])
        self.assert_same(steps(reader, (0, (0, 1, 2))), [(0, live) for live in some])

    def test_no_steps(self):
        for mark, inner, order in WAYS:
            reader = Reader(mark, TWO, inner=inner, order=order)
            self.assert_same((steps(reader, (0, ())), steps(reader, (1, ()))), ([], []))
            ending = Reader(mark, [(3, (3, 3), None, None)], inner=inner, order=order)
            self.assert_same(steps(ending, (0, (0, 1))), [])
            self.assertEqual(steps(reader, (0, (0, 1))) == [], mark == "from")
        for standing in all_standings(Reader("from", TWO)):
            self.assert_same(steps(Reader("from", TWO), standing), [])

    def test_by_the_words(self):
        for reader in some_readers(11, 25):
            for standing in all_standings(reader):
                self.assert_same(steps(reader, standing), steps_by_the_words(reader, standing))

    def test_what_is_returned_may_be_changed(self):
        reader = Reader("row", TWO)
        steps(reader, (0, (0, 1))).clear()
        self.assertEqual(len(steps(reader, (0, (0, 1)))), 4)
        self.assert_same(reader, Reader("row", TWO))

    def test_what_was_returned_may_be_passed(self):
        reader = Reader("row", TWO)
        for standing in standings(reader):
            for following in steps(reader, standing):
                self.assertIn(following, list(standings(reader)))


class Standings(Case):
    def test_all_that_steps_lead_to(self):
        for reader in some_readers(12, 25):
            found, new = {first_standing(reader)}, {first_standing(reader)}
            while new:
                new = {other for one in new for other in steps_by_the_words(reader, one)} - found
                found |= new
            self.assert_same(list(standings(reader)), sorted(found))

    def test_few(self):
        self.assert_same(list(standings(Reader("rest", [(2, (2, 3), 0, None)]))), [(0, (0, 1))])
        self.assert_same(list(standings(Reader("from", TWO))), [(0, (0, 1))])
        reader = Reader("row", TWO)
        self.assert_same(list(standings(reader=reader)), [
            (0, ()), (0, (0,)), (0, (0, 1)), (0, (1,)), (1, ()), (1, (0,)), (1, (0, 1)), (1, (1,)),
        ])
        reader = Reader("row", [(2, (2, 1), 2, 1), (3, (2, 2), None, 0), (1, (1, 1), None, None)])
        self.assert_same(list(standings(reader)), [
            (0, ()), (0, (0, 1)), (0, (1,)), (1, ()), (1, (1,)), (2, (0, 1)),
        ])

    def test_states_that_no_steps_lead_to(self):
        reader = Reader("row", [(1, (1,), 2, 1), (1, (1,), 0, 0), (2, (1,), 0, None)])
        self.assert_same(list(standings(reader)), [(0, (0,)), (2, (0,))])

    def test_a_generator(self):
        reader = Reader("row", TWO)
        wanted = list(standings(reader))
        found = standings(reader)
        self.assertTrue(inspect.isgenerator(found))
        self.assertEqual(list(found), wanted)
        self.assertEqual(list(found), [])
        self.assertEqual(list(standings(reader)), wanted)

    def test_in_part(self):
        reader = Reader("row", TWO)
        wanted = list(standings(reader))
        one, other = standings(reader), standings(reader)
        self.assertEqual([next(one), next(one), next(other), next(one)], [*wanted[:2], wanted[0], wanted[2]])
        self.assertEqual([list(other), list(one)], [wanted[1:], wanted[3:]])

    def test_the_most_standings(self):
        states = [(4, (1, 1, 1, 1), (at + 1) % 6, at) for at in range(6)]
        reader = Reader("each", states)
        self.assert_same(list(standings(reader)), sorted(all_standings(reader)))
        self.assertEqual(len(list(standings(reader))), 96)


class Errors(Case):
    def test_no_standings(self):
        reader = Reader("row", [(2, (2, 2, 1), 1, 0), (3, (1, 1, 1), 0, None)])
        for call in (steps, kinds_at):
            for value in NO_STANDINGS:
                self.assert_error(InvalidStanding, [value], call, reader, value)
            for standing in all_standings(reader):
                self.assertIsInstance(call(reader, standing), list)

    def test_errors_come_ahead_of_the_mark(self):
        reader = Reader("from", [(2, (2,), 0, None)])
        for call in (steps, kinds_at):
            for value in [(1, ()), (0, (1,)), (0, (0, 0)), None, [0, ()]]:
                self.assert_error(InvalidStanding, [value], call, reader, value)

    def test_each_number_of_states_and_parts(self):
        for many in range(1, 7):
            for parts in range(1, 5):
                reader = Reader("row", [(2, (2,) * parts, 0, None)] * many)
                for call in (steps, kinds_at):
                    for state in range(-1, 8):
                        for part in range(-1, 6):
                            standing = (state, (part,))
                            if 0 <= state < many and 0 <= part < parts:
                                self.assertIsInstance(call(reader, standing), list)
                            else:
                                self.assert_error(InvalidStanding, [standing], call, reader, standing)
