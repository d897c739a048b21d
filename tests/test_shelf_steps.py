"""Shelves: steps, undo and redo, kept answers and twins."""

import random

from partfirsts import shelf as shelf_module
from partfirsts.errors import NothingLeft, PartError, UnknownName
from partfirsts.notation import reader_text
from partfirsts.readers import Reader
from partfirsts.shelf import Shelf
from partfirsts.verdicts import is_right
from helper import Case
from test_shelf import EMPTY, EXACT, KEY, ROWS, entry_of, some_shelf, told_by

REST = reader_text(Reader("rest", [(2, (2, 2), 0, None)]))


class Steps(Case):
    def test_undo_and_redo(self):
        shelf = Shelf()
        for command in [("reader", "a", EXACT), ("table", "b", ROWS), ("deal", "b", 2, 1), ("put", "a", KEY), ("drop", "b")]:
            shelf.apply(command)
        seen = [[], ["a"], ["a", "b"], ["a", "b"], ["a", "b"], ["a"]]
        for at in range(4, -1, -1):
            self.assertIsNone(shelf.undo())
            self.assert_same((shelf.names(), shelf.history()), (seen[at], (at, 5 - at)))
        self.assert_error(NothingLeft, [], shelf.undo)
        for at in range(1, 6):
            self.assertIsNone(shelf.redo())
            self.assert_same((shelf.names(), shelf.history()), (seen[at], (at, 5 - at)))
        self.assert_error(NothingLeft, [], shelf.redo)
        self.assert_same(shelf.history(), (5, 0))

    def test_what_is_put_and_dealt_comes_back(self):
        shelf = some_shelf()
        shelf.apply(("put", "exact", KEY), ("deal", "rows", 2, 1))
        shelf.undo()
        self.assertEqual((shelf.reader_of("exact"), shelf.table_of("rows").parts_of(2)), (Reader.exact(2, 2), (0, 1)))
        shelf.redo()
        self.assertEqual((shelf.reader_of("exact").mark, shelf.table_of("rows").parts_of(2)), ("key", (1,)))

    def test_nothing_to_take_back(self):
        shelf = Shelf()
        for call in (shelf.undo, shelf.redo):
            self.assert_error(NothingLeft, [], call)
            self.assert_same((shelf.history(), len(shelf), shelf.busy), ((0, 0), 0, False))

    def test_an_apply_without_commands_is_a_step(self):
        shelf = some_shelf()
        self.assertIsNone(shelf.apply())
        self.assert_same((shelf.history(), len(shelf)), ((2, 0), 4))
        shelf.undo()
        self.assert_same((shelf.history(), len(shelf)), ((1, 1), 4))
        shelf.redo()
        shelf.undo()
        shelf.undo()
        self.assert_same((shelf.history(), len(shelf)), ((0, 2), 0))
        shelf.apply()
        self.assert_same(shelf.history(), (1, 0))

    def test_several_commands_are_one_step(self):
        shelf = some_shelf()
        shelf.apply(("drop", "key"), ("drop", "rows"), ("drop", "empty"))
        self.assert_same((shelf.names(), shelf.history()), (["exact"], (2, 0)))
        shelf.undo()
        self.assert_same((len(shelf), shelf.history()), (4, (1, 1)))

    def test_another_step_ends_what_can_be_made_again(self):
        for command in [("drop", "key"), ("put", "key", EXACT), ("table", "more", EMPTY)]:
            shelf = some_shelf()
            shelf.apply(("drop", "rows"))
            shelf.undo()
            self.assertRaises(PartError, shelf.apply, ("reader", "A", KEY))
            self.assertRaises(UnknownName, shelf.apply, ("drop", "x"))
            self.assertRaises(PartError, shelf.apply, ("drop",))
            shelf.word("key")
            shelf.limit = 10
            self.assert_same(shelf.history(), (1, 1))
            shelf.apply(command)
            self.assert_same(shelf.history(), (2, 0))
            self.assert_error(NothingLeft, [], shelf.redo)

    def test_busy(self):
        shelf = Shelf()
        seen = []

        def reading(text):
            seen.append(shelf.busy)
            return Reader.exact(1, 1)

        true_reading = shelf_module.read_reader
        shelf_module.read_reader = reading
        try:
            shelf.apply(("reader", "a", ""))
        finally:
            shelf_module.read_reader = true_reading
        self.assert_same((seen, shelf.busy), ([True], False))
        for commands in [(("drop", "x"),), (("drop",),), (("reader", "b", ""),), ()]:
            try:
                shelf.apply(*commands)
            except (PartError, UnknownName):
                pass
            self.assert_same(shelf.busy, False)
        self.assertRaises(AttributeError, setattr, shelf, "busy", True)


class Kept(Case):
    def test_words(self):
        shelf = some_shelf()
        self.assert_same((shelf.kept(), shelf.computed), ([], 0))
        self.assert_same((shelf.word("key"), shelf.kept(), shelf.computed), ("wrong", ["key"], 1))
        self.assert_same((shelf.word(name="exact"), shelf.kept(), shelf.computed), ("right", ["exact", "key"], 2))
        self.assert_same((shelf.word("key"), shelf.word("exact"), shelf.computed), ("wrong", "right", 2))
        self.assert_error(UnknownName, ["rows"], shelf.word, "rows")
        self.assert_error(UnknownName, ["none"], shelf.word, "none")
        self.assert_same((shelf.kept(), shelf.computed, shelf.history()), (["exact", "key"], 2, (1, 0)))
        shelf.kept().clear()
        self.assert_same(shelf.kept(), ["exact", "key"])

    def check(self, commands, kept):
        """Behind a step with these commands these answers of exact and key are kept."""
        shelf = some_shelf()
        shelf.word("key")
        shelf.word("exact")
        shelf.apply(*commands)
        self.assert_same((shelf.kept(), shelf.computed), (kept, 2))
        shelf.undo()
        # What was kept no more is not kept again by an undo.
        self.assert_same((shelf.kept(), shelf.computed), (kept, 2))
        for name in ("exact", "key"):
            self.assert_same(shelf.word(name), "right" if name == "exact" else "wrong")
        self.assert_same((shelf.kept(), shelf.computed), (["exact", "key"], 4 - len(kept)))
        shelf.redo()
        self.assert_same((shelf.kept(), shelf.computed), (kept, 4 - len(kept)))

    def test_steps_and_kept_answers(self):
        both = ["exact", "key"]
        self.check([], both)
        self.check([("deal", "rows", 1, 1), ("drop", "empty"), ("table", "more", ROWS)], both)
        self.check([("reader", "more", REST)], both)
        self.check([("drop", "key")], ["exact"])
        self.check([("drop", "key"), ("drop", "exact")], [])
        self.check([("put", "key", REST)], ["exact"])
        self.check([("put", "exact", REST)], ["key"])
        # The same reader again is not unlike, however it came there.
        self.check([("put", "key", KEY)], both)
        self.check([("put", "key", REST), ("put", "key", KEY)], both)
        self.check([("drop", "key"), ("reader", "key", KEY)], both)
        self.check([("drop", "key"), ("reader", "key", EXACT)], ["exact"])
        self.check([("drop", "key"), ("table", "key", ROWS)], ["exact"])
        self.check([("put", "key", EXACT), ("put", "exact", KEY)], [])

    def test_readers_that_are_unlike_in_one_thing(self):
        for text in [
            KEY.replace("key", "row"), KEY.replace("up", "down"), KEY.replace("number", "part"), KEY.replace("state 1", "state 2"),
            KEY.replace("0 0", "0 -"), KEY.replace("1 1\n", "1 2\n"), KEY + "state 1 0 0 1 1\n",
        ]:
            self.check([("put", "key", text)], ["exact"])

    def test_no_step(self):
        shelf = some_shelf()
        shelf.word("key")
        for commands in [(("drop", "key"), ("drop", "x")), (("put", "key", EXACT), ("drop",)), (("put", "key", "x"),)]:
            self.assertRaises((PartError, UnknownName), shelf.apply, *commands)
            self.assert_same((shelf.kept(), shelf.computed), (["key"], 1))
        self.assert_error(NothingLeft, [], shelf.redo)
        shelf.limit = 4
        self.assert_same(shelf.kept(), ["key"])

    def test_answers_that_are_asked_for_between_undo_and_redo(self):
        shelf = Shelf()
        shelf.apply(("reader", "a", KEY))
        shelf.apply(("put", "a", EXACT))
        self.assert_same(shelf.word("a"), "right")
        shelf.undo()
        self.assert_same((shelf.kept(), shelf.word("a"), shelf.computed), ([], "wrong", 2))
        shelf.redo()
        self.assert_same((shelf.kept(), shelf.word("a"), shelf.computed), ([], "right", 3))
        shelf.undo()
        shelf.undo()
        self.assert_same((shelf.kept(), shelf.names(), shelf.computed), ([], [], 3))


class Twins(Case):
    def test_the_same(self):
        shelf = some_shelf(limit=9)
        shelf.word("key")
        shelf.apply(("drop", "rows"))
        shelf.apply(("put", "exact", REST))
        shelf.undo()
        twin = shelf.twin()
        self.assertIsInstance(twin, Shelf)
        self.assertIsNot(twin, shelf)
        self.assertEqual(twin, shelf)
        self.assert_same(told_by(twin), told_by(shelf))
        for calls in (["redo", "undo", "undo", "undo"], ["redo", "redo", "redo"]):
            for name in calls:
                getattr(shelf, name)()
                getattr(twin, name)()
                self.assert_same(told_by(twin), told_by(shelf))
        self.assert_same((twin.word("key"), twin.computed, twin.limit), (shelf.word("key"), shelf.computed, 9))

    def test_independent(self):
        shelf = some_shelf()
        shelf.word("key")
        shelf.apply()
        shelf.undo()
        before, twin = told_by(shelf), shelf.twin()
        twin.word("exact")
        twin.limit = 20
        twin.apply(("drop", "key"), ("deal", "rows", 1, 1))
        twin.undo()
        twin.undo()
        self.assert_same(told_by(shelf), before)
        twin = shelf.twin()
        shelf.redo()
        shelf.word("exact")
        shelf.apply(("drop", "rows"), ("put", "key", EXACT))
        shelf.limit = 5
        self.assert_same(told_by(twin), before)
        shelf.undo()
        twin.redo()
        self.assert_same(twin.history(), (2, 0))

    def test_twins_beyond_the_limit(self):
        shelf = some_shelf()
        shelf.apply(("drop", "key"), ("drop", "rows"))
        shelf.limit = 2
        shelf.undo()
        twin = shelf.twin()
        self.assert_same((told_by(twin), twin.limit, len(twin)), (told_by(shelf), 2, 4))


class AtRandom(Case):
    """Random calls against a list of the entries behind each step."""

    TEXTS = {"reader": [EXACT, KEY, REST], "table": [ROWS, EMPTY]}

    def command(self, rng):
        word, name = rng.choice(["reader", "table", "put", "put", "drop", "deal"]), rng.choice("abc")
        if word == "drop":
            return (word, name)
        if word == "deal":
            return (word, name, rng.choice([1, 2, 7, 9]), rng.choice([0, 1, 2]))
        return (word, name, rng.choice(self.TEXTS.get(word, self.TEXTS["reader"] + self.TEXTS["table"])))

    def entries(self, shelf):
        return {name: entry_of(shelf, name) for name in shelf.names()}

    def settled(self, kept, entries):
        return {name: reader for name, reader in kept.items() if name in entries and entries[name] == reader}

    def test_at_random(self):
        rng = random.Random(131)
        for _ in range(60):
            shelf, seen, at, kept, computed = Shelf(limit=2), [{}], 0, {}, 0
            for _ in range(40):
                action = rng.choice(["apply", "apply", "apply", "undo", "redo", "word", "word"])
                if action == "apply":
                    try:
                        shelf.apply(*[self.command(rng) for _ in range(rng.choice([0, 1, 1, 1, 2]))])
                        seen, at = [*seen[:at + 1], self.entries(shelf)], at + 1
                    except (PartError, LookupError):
                        pass
                elif action == "undo" and at > 0:
                    shelf.undo()
                    at -= 1
                elif action == "redo" and at < len(seen) - 1:
                    shelf.redo()
                    at += 1
                kept = self.settled(kept, seen[at])
                name = rng.choice("abc")
                if action == "word" and isinstance(seen[at].get(name), Reader):
                    reader = seen[at][name]
                    self.assert_same(shelf.word(name), "right" if is_right(reader) else "wrong")
                    computed += name not in kept
                    kept[name] = reader
                self.assertEqual(self.entries(shelf), seen[at])
                self.assert_same((shelf.history(), shelf.kept(), shelf.computed), (
                    (at, len(seen) - 1 - at), sorted(kept), computed,
                ))
                if rng.random() < 0.2:
                    shelf = shelf.twin()
