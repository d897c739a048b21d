"""What several test files need."""

import unittest

# Values of the kinds that a checked value may have, and a few of other kinds.
ODD_VALUES = [
    None, True, False, "", "a", "0", "1", (), [], (0,), [0], (1,), [1], (0, 1), [0, 1], (True,), [None],
    ("a", 1, (0,)), [[0]], ((0,),), [[[[[[1]]]]]], "abcdefghi", 1.0, 0.0, b"a", {}, {1: 2},
]


def same(one, other):
    """Equality that tells 1, True and 1.0 apart, also within lists and tuples."""
    return one == other and repr(one) == repr(other)


class Case(unittest.TestCase):
    """A test case that knows the errors of the package."""

    def assert_same(self, one, other):
        self.assertTrue(same(one, other), f"{one!r} is not {other!r}")

    def assert_error(self, kind, values, call, *args, **named):
        """The call raises just this class, whose attributes besides code have these values."""
        with self.assertRaises(kind) as caught:
            call(*args, **named)
        error = caught.exception
        self.assertIs(error.__class__, kind)
        self.assertEqual(error.code, kind.__name__)
        self.assert_same([item for name, item in vars(error).items() if name != "code"], values)
