import ast
import inspect
import pathlib
import unittest

from partfirsts import asking, desk, faults, groups, hands, notation, readers, runs, shelf, standings, tables, verdicts
from partfirsts import windows, words

FUNCTIONS = {
    words: {"is_name": "(value)", "is_number": "(value, least, most)"},
    runs: {"judge": "(reader, table, *, moves=())"},
    standings: {
        "first_standing": "(reader)",
        "steps": "(reader, standing)",
        "standings": "(reader)",
        "kinds_at": "(reader, standing)",
    },
    faults: {"possible": "(reader, kind)", "fault_table": "(reader, kind)"},
    verdicts: {
        "decide": "(reader, *, copies=False, moves=False)",
        "is_right": "(reader, *, copies=False, moves=False)",
    },
    asking: {"least_asks": "(reader, *, most=4)", "sways": "(reader)"},
    windows: {"window": "(table, asks, skip, size)", "window_table": "(asks, skip, size)"},
    groups: {
        "true_first": "(parts, size, way)",
        "told_first": "(parts, ask, size, way)",
        "group_parts": "(many, ask, size, way)",
    },
    notation: {
        "reader_text": "(reader)",
        "table_text": "(table)",
        "read_reader": "(text)",
        "read_table": "(text)",
        "page_table": "(pages)",
    },
}
METHODS = {
    tables.Table: {
        "__init__": "(self, parts, rows)",
        "dealt": "(parts, places)",
        "alone": "(parts, places, *, part=0)",
        "rows": "(self)",
        "places": "(self)",
        "part": "(self, index)",
        "place_of": "(self, number)",
        "parts_of": "(self, number)",
        "moved": "(self, number, *parts)",
        "with_row": "(self, row)",
        "without": "(self, *numbers)",
    },
    readers.Reader: {
        "__init__": "(self, mark, states, *, inner='up', order='number')",
        "exact": "(parts, size)",
        "states": "(self)",
        "with_asks": "(self, *asks)",
    },
    runs.Run: {
        "__init__": "(self, reader, table)",
        "open_rows": "(self, part)",
        "sent": "(self, part)",
        "at_hand": "(self)",
        "pages": "(self)",
        "told": "(self)",
        "page": "(self)",
        "__call__": "(self)",
        "play": "(self, *, most=100)",
        "move": "(self, number, *parts)",
        "back": "(self)",
        "again": "(self)",
        "history": "(self)",
        "twin": "(self)",
    },
    verdicts.Verdict: {"__init__": "(self, reader)", "told": "(self)", "holds": "(self)"},
    verdicts.Right: {
        "__init__": "(self, reader, listed, *, copies=False, moves=False)",
        "told": "(self)",
        "holds": "(self)",
    },
    verdicts.Wrong: {
        "__init__": "(self, reader, kind, table, *, moves=())",
        "told": "(self)",
        "holds": "(self)",
    },
    hands.Hand: {
        "__init__": "(self, table, asks, size, *, inner='up', order='number')",
        "page": "(self)",
        "held": "(self)",
        "left": "(self, part)",
        "set_size": "(self, value)",
        "walk": "(self)",
    },
    shelf.Shelf: {
        "__init__": "(self, *, limit=8)",
        "set_limit": "(self, value)",
        "apply": "(self, *commands)",
        "undo": "(self)",
        "redo": "(self)",
        "history": "(self)",
        "names": "(self)",
        "reader_of": "(self, name)",
        "table_of": "(self, name)",
        "word": "(self, name)",
        "kept": "(self)",
        "twin": "(self)",
    },
    desk.Desk: {
        "__init__": "(self, shelf)",
        "say": "(self, line)",
        "__call__": "(self, line)",
        "log": "(self)",
    },
}
STATIC = {tables.Table: ["dealt", "alone"], readers.Reader: ["exact"]}
PROPERTIES = {
    tables.Table: ["parts", "plain"],
    readers.Reader: ["mark", "inner", "order", "parts"],
    runs.Run: ["reader", "table", "state", "fault", "ended"],
    verdicts.Verdict: ["reader"],
    verdicts.Right: ["listed", "copies", "moves"],
    verdicts.Wrong: ["kind", "table", "moves"],
    hands.Hand: ["size"],
    shelf.Shelf: ["limit", "busy", "computed"],
    desk.Desk: ["shelf"],
}
# The properties that can be assigned.
ASSIGNED = {hands.Hand: ["size"], shelf.Shelf: ["limit"]}
OPERATORS = {
    tables.Table: ["__or__", "__contains__", "__len__", "__bool__", "__eq__", "__repr__"],
    readers.Reader: ["__len__", "__eq__", "__repr__"],
    runs.Run: ["__call__", "__len__", "__bool__", "__repr__"],
    verdicts.Verdict: ["__bool__", "__repr__"],
    verdicts.Right: ["__bool__"],
    hands.Hand: ["__len__", "__bool__"],
    shelf.Shelf: ["__contains__", "__len__", "__bool__", "__eq__", "__repr__"],
    desk.Desk: ["__call__", "__len__", "__bool__", "__repr__"],
}
VALUES = {
    tables.Table: {"MOST_PARTS": 4, "MOST_ROWS": 300},
    readers.Reader: {
        "MARKS": ("key", "from", "row", "each", "count", "rest"),
        "INNER": ("up", "down"),
        "ORDERS": ("number", "back", "part"),
        "MOST_STATES": 6,
        "MOST_ASK": 9,
    },
    shelf.Shelf: {"MOST": 20},
}
HOMES = {
    "partfirsts.tables": [tables.Table],
    "partfirsts.readers": [readers.Reader],
    "partfirsts.runs": [runs.Run],
    "partfirsts.verdicts": [verdicts.Verdict, verdicts.Right, verdicts.Wrong],
    "partfirsts.hands": [hands.Hand],
    "partfirsts.shelf": [shelf.Shelf],
    "partfirsts.desk": [desk.Desk],
}


# Each module needs only those above it; orders is no part of the interface, and needs none.
ORDER = [
    "errors", "words", "orders", "tables", "readers", "runs", "standings", "faults", "verdicts", "asking", "hands",
    "windows", "groups", "notation", "shelf", "desk",
]


class Interface(unittest.TestCase):
    def test_each_module_needs_only_those_above_it(self):
        folder = pathlib.Path(tables.__file__).parent
        self.assertEqual(sorted(path.stem for path in folder.glob("*.py")), sorted(["__init__", *ORDER]))
        for at, name in enumerate(ORDER):
            for node in ast.walk(ast.parse((folder / f"{name}.py").read_text(encoding="utf-8"))):
                if isinstance(node, ast.ImportFrom):
                    self.assertIn(node.module.removeprefix("partfirsts."), ORDER[:at], name)

    def test_constants(self):
        self.assertEqual(faults.KINDS, ("late", "left", "lost", "twice"))
        self.assertEqual(groups.WAYS, ("least", "greatest", "sum"))
        self.assertTrue(inspect.isgeneratorfunction(standings.standings))
        self.assertTrue(inspect.isgeneratorfunction(hands.Hand.walk))

    def test_functions_stand_in_their_files(self):
        for module, functions in FUNCTIONS.items():
            for name, signature in functions.items():
                function = getattr(module, name)
                self.assertEqual(function.__module__, module.__name__)
                self.assertEqual(str(inspect.signature(function)), signature)

    def test_classes_stand_in_their_files(self):
        for home, kinds in HOMES.items():
            for kind in kinds:
                self.assertEqual(kind.__module__, home)

    def test_methods_stand_in_their_classes(self):
        for kind, methods in METHODS.items():
            for name, signature in methods.items():
                self.assertIn(name, vars(kind))
                self.assertEqual(str(inspect.signature(getattr(kind, name))), signature)
                self.assertEqual(isinstance(vars(kind)[name], staticmethod), name in STATIC.get(kind, []))

    def test_operators_stand_in_their_classes(self):
        for kind, names in OPERATORS.items():
            for name in names:
                self.assertIn(name, vars(kind))

    def test_properties_and_class_values(self):
        for kind, names in PROPERTIES.items():
            for name in names:
                self.assertIsInstance(vars(kind)[name], property)
                self.assertEqual(vars(kind)[name].fset is not None, name in ASSIGNED.get(kind, []))
        for kind, values in VALUES.items():
            for name, value in values.items():
                self.assertEqual(vars(kind)[name], value)
