import copy
import inspect

from partfirsts import errors
from helper import Case

PARAMETERS = {
    "InvalidRow": "at",
    "InvalidPart": "given",
    "InvalidMark": "given",
    "InvalidOrder": "given",
    "InvalidState": "at",
    "InvalidAsk": "given",
    "InvalidNumber": "given",
    "InvalidStanding": "given",
    "InvalidKind": "given",
    "InvalidGroup": "at",
    "InvalidWay": "given",
    "InvalidName": "given",
    "InvalidText": "line",
    "InvalidCommand": "at",
    "InvalidLimit": "given",
    "DuplicateNumber": "number",
    "DuplicateName": "name",
    "TooMany": "most",
    "PartsDiffer": None,
    "WrongReader": "first",
    "Ended": None,
    "Full": "limit",
    "UnknownName": "name",
    "UnknownNumber": "number",
    "NothingLeft": None,
}
BENEATH_MISSING = ["UnknownName", "UnknownNumber"]
VALUES = [0, 1, -1, 10 ** 29, True, False, None, "", "abc", (), [], (1, "a"), [1, (2, [3])], [[[[[[0]]]]]]]


def base_of(name):
    if name in BENEATH_MISSING:
        return errors.Missing
    return IndexError if name == "NothingLeft" else errors.PartError


def made(name, value=0):
    kind = getattr(errors, name)
    return kind() if PARAMETERS[name] is None else kind(value)


class Errors(Case):
    def test_every_class_is_there_and_no_other(self):
        found = [name for name, item in vars(errors).items() if inspect.isclass(item)]
        self.assertEqual(sorted(found), sorted(["PartError", "Missing", *PARAMETERS]))
        for name in found:
            self.assertEqual(getattr(errors, name).__module__, "partfirsts.errors")

    def test_bases(self):
        self.assertEqual(errors.PartError.__bases__, (ValueError,))
        self.assertEqual(errors.Missing.__bases__, (LookupError,))
        for name in PARAMETERS:
            self.assertEqual(getattr(errors, name).__bases__, (base_of(name),), name)

    def test_no_class_beneath_another_one(self):
        kinds = [getattr(errors, name) for name in ["PartError", "Missing", *PARAMETERS]]
        for one in kinds:
            for other in kinds:
                beneath = one == other or (one.__name__ in PARAMETERS and other == base_of(one.__name__))
                self.assertEqual(issubclass(one, other), beneath, (one, other))
        self.assertFalse(issubclass(errors.Missing, (KeyError, IndexError)))
        self.assertFalse(issubclass(errors.UnknownName, KeyError))
        self.assertFalse(issubclass(errors.NothingLeft, errors.Missing))

    def test_code(self):
        for name in PARAMETERS:
            self.assertEqual(made(name).code, name)

    def test_base_errors_have_no_code(self):
        self.assertFalse(hasattr(errors.PartError("why"), "code"))
        self.assertFalse(hasattr(errors.Missing("why"), "code"))
        self.assertFalse(hasattr(errors.PartError(), "code"))

    def test_attribute_takes_any_value(self):
        for name, parameter in PARAMETERS.items():
            for value in VALUES:
                if parameter is not None:
                    self.assert_same(getattr(made(name, value), parameter), value)
                    named = getattr(errors, name)(**{parameter: value})
                    self.assert_same(getattr(named, parameter), value)

    def test_attributes_are_set_on_the_object(self):
        for name, parameter in PARAMETERS.items():
            wanted = ["code"] if parameter is None else ["code", parameter]
            self.assertEqual(sorted(vars(made(name))), sorted(wanted))

    def test_constructors_take_what_is_listed(self):
        for name, parameter in PARAMETERS.items():
            kind = getattr(errors, name)
            if parameter is None:
                self.assertRaises(TypeError, kind, 1)
            else:
                self.assertRaises(TypeError, kind)
                self.assertRaises(TypeError, kind, 1, 2)

    def test_what_was_given_is_copied(self):
        for name, parameter in PARAMETERS.items():
            if parameter is not None:
                given = [1, ([2], [[3]])]
                error = made(name, given)
                given[1][0].append(4)
                given[1][1][0].append(5)
                given.append(6)
                self.assert_same(getattr(error, parameter), [1, ([2], [[3]])])

    def test_objects_are_kept_as_they_are(self):
        thing = object()
        self.assertIs(errors.InvalidPart(thing).given, thing)

    def test_caught_by_its_base(self):
        for name in PARAMETERS:
            for base in (base_of(name), base_of(name).__bases__[0], getattr(errors, name), Exception):
                try:
                    raise made(name)
                except base as caught:
                    self.assertEqual(caught.code, name)

    def test_two_errors_keep_their_own_values(self):
        one, other = errors.InvalidPart(1), errors.InvalidPart(2)
        self.assertEqual((one.given, other.given), (1, 2))
        self.assertEqual(copy.copy(one).given, 1)


class Copied(Case):
    def test_equal_and_new(self):
        for value in VALUES:
            self.assert_same(errors.copied(value), value)
        inner = [1]
        outer = errors.copied([inner, (inner,)])
        inner.append(2)
        self.assert_same(outer, [[1], ([1],)])
