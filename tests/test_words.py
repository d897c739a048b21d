import itertools

from partfirsts.words import is_name, is_number
from helper import ODD_VALUES, Case

LETTERS = "abcdefghijklmnopqrstuvwxyz"
SIGNS = [chr(code) for code in range(32, 127)] + ["\n"]


class Names(Case):
    def test_lengths(self):
        for many in range(12):
            for letter in "amz":
                self.assert_same(is_name(letter * many), 1 <= many <= 8)

    def test_each_sign_at_each_place(self):
        for sign in SIGNS:
            self.assert_same(is_name(sign), sign in LETTERS)
            for many in range(1, 9):
                for at in range(many):
                    text = "a" * at + sign + "z" * (many - at - 1)
                    self.assert_same(is_name(text), sign in LETTERS)

    def test_short_strings(self):
        for many in range(4):
            for signs in itertools.product("az`{A 1\n", repeat=many):
                text = "".join(signs)
                self.assert_same(is_name(text), many > 0 and all(sign in "az" for sign in signs))

    def test_letters_beyond_ascii(self):
        for sign in "\u00e4\u00df\u03b1\u0131":
            self.assert_same(is_name(sign), False)

    def test_no_strings(self):
        for value in [*ODD_VALUES, 0, 1, ("a",), ["a"], ["a", "b"], ("abc", "d"), b"abc"]:
            self.assert_same(is_name(value), isinstance(value, str) and value == "a")

    def test_by_name(self):
        self.assert_same(is_name(value="part"), True)


class Numbers(Case):
    def test_near_the_bounds(self):
        for least, most in [(0, 0), (0, 3), (-2, 2), (1, 4), (-10 ** 9, 10 ** 9), (3, 2), (10 ** 29, 10 ** 30)]:
            for bound in (least, most):
                for value in range(bound - 3, bound + 4):
                    self.assert_same(is_number(value, least, most), value >= least and value <= most)

    def test_booleans_are_no_numbers(self):
        for value in (True, False):
            for least, most in [(0, 1), (-1, 2), (-10 ** 9, 10 ** 9), (1, 1), (0, 0)]:
                self.assert_same(is_number(value, least, most), False)

    def test_no_numbers(self):
        for value in ODD_VALUES:
            self.assert_same(is_number(value, -10 ** 9, 10 ** 9), False)

    def test_large_numbers(self):
        for value in (10 ** 29, -10 ** 29, 10 ** 40):
            self.assert_same(is_number(value, 0, 10 ** 9), False)
            self.assert_same(is_number(value, value, value), True)

    def test_by_name(self):
        self.assert_same(is_number(value=2, least=1, most=3), True)
        self.assert_same(is_number(most=3, least=1, value=4), False)
