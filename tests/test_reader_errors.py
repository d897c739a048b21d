from partfirsts.errors import InvalidMark, InvalidOrder, InvalidState
from partfirsts.readers import Reader
from helper import ODD_VALUES, Case
from model import INNER, MARKS, ORDERS

GOOD = (2, (1, 3), 0, None)
WORDS = ["", "up", "down", "number", "back", "part", "row ", "Row", "ROW", "key", "rows", "u", ("row",), ["up"]]
# No states of a reader with three states, each of which may follow.
NO_STATES = [
    *ODD_VALUES, 0, 5,
    [2, (1, 3), 0, None], (2, (1, 3), 0), (2, (1, 3), 0, None, None), (2, [1, 3], 0, None), ((1, 3), 2, 0, None),
    (0, (1, 3), 0, None), (10, (1, 3), 0, None), (-1, (1, 3), 0, None), (True, (1, 3), 0, None), (None, (1, 3), 0, 0),
    ("2", (1, 3), 0, None), ((2,), (1, 3), 0, None), (10 ** 29, (1, 3), 0, None),
    (2, (), 0, None), (2, None, 0, None), (2, 1, 0, None), (2, "13", 0, None), (2, (1, 1, 1, 1, 1), 0, None),
    (2, (0, 3), 0, None), (2, (1, 0), 0, None), (2, (1, 10), 0, None), (2, (-1, 3), 0, None), (2, (1, True), 0, None),
    (2, (None, 3), 0, None), (2, ("1", 3), 0, None), (2, ((1,), 3), 0, None), (2, (1, 10 ** 29), 0, None),
    (2, (1, 3), 3, None), (2, (1, 3), -1, None), (2, (1, 3), True, None), (2, (1, 3), False, None),
    (2, (1, 3), "0", None), (2, (1, 3), (0,), None), (2, (1, 3), [], None), (2, (1, 3), 10 ** 29, None),
    (2, (1, 3), 0, 3), (2, (1, 3), 0, -1), (2, (1, 3), 0, True), (2, (1, 3), 0, False), (2, (1, 3), 0, "0"),
    (2, (1, 3), None, 10 ** 29), (2, (1, 3), None, ""),
]
# States beside them that are let.
GOOD_STATES = [
    (1, (1, 1), None, None), (9, (9, 9), None, None), (1, (9, 1), 2, 2), (9, (1, 9), 0, 0), (5, (5, 5), None, 0),
    (5, (5, 5), 2, None), (3, (2, 7), 1, 2),
]
UNLIKE = [(2, (1,), 0, None), (2, (1, 3, 1), 0, None), (2, (1, 3, 1, 1), 0, None)]


class MarksAndOrders(Case):
    def test_mark(self):
        for value in [*ODD_VALUES, *WORDS, 0]:
            if value not in MARKS:
                self.assert_error(InvalidMark, [value], Reader, value, [GOOD])

    def test_inner(self):
        for value in [*ODD_VALUES, *WORDS, 0]:
            if value not in INNER:
                self.assert_error(InvalidOrder, [value], Reader, "row", [GOOD], inner=value)

    def test_order(self):
        for value in [*ODD_VALUES, *WORDS, 0]:
            if value not in ORDERS:
                self.assert_error(InvalidOrder, [value], Reader, "row", [GOOD], order=value)

    def test_order_of_errors(self):
        self.assert_error(InvalidMark, ["up"], Reader, "up", [], inner="number", order="down")
        self.assert_error(InvalidMark, [None], Reader, None, [None])
        self.assert_error(InvalidOrder, ["number"], Reader, "row", [], inner="number", order="down")
        self.assert_error(InvalidOrder, ["back"], Reader, "row", [None], inner="back")
        self.assert_error(InvalidOrder, ["down"], Reader, "row", [None], order="down")
        self.assert_error(InvalidOrder, ["up"], Reader, "row", [], inner="down", order="up")


class States(Case):
    def test_no_state(self):
        self.assert_error(InvalidState, [0], Reader, "row", [])
        self.assert_error(InvalidState, [0], Reader, "row", ())

    def test_one_wrong_state(self):
        for value in NO_STATES:
            for at in range(3):
                states = [GOOD, GOOD, GOOD]
                states[at] = value
                self.assert_error(InvalidState, [at], Reader, "row", states)
                self.assert_error(InvalidState, [at], Reader, "rest", tuple(states))

    def test_several_wrong_states(self):
        for value in NO_STATES:
            for other in (None, UNLIKE[0], value):
                self.assert_error(InvalidState, [0], Reader, "row", [value, other, GOOD])
                self.assert_error(InvalidState, [1], Reader, "row", [GOOD, value, other])

    def test_good_states(self):
        for value in GOOD_STATES:
            for at in range(3):
                states = [GOOD, GOOD, GOOD]
                states[at] = value
                self.assert_same(Reader("row", states).states(), states)

    def test_asks_for_each_number_of_parts(self):
        for parts in range(1, 5):
            for many in range(1, 5):
                states = [(2, (1,) * parts, 0, None), (2, (1,) * many, 0, None)]
                if many == parts:
                    self.assert_same(Reader("row", states).parts, parts)
                else:
                    self.assert_error(InvalidState, [1], Reader, "row", states)

    def test_unlike_numbers_of_asks(self):
        for value in UNLIKE:
            self.assert_error(InvalidState, [1], Reader, "row", [GOOD, value])
            self.assert_error(InvalidState, [2], Reader, "row", [GOOD, GOOD, value])
            self.assert_error(InvalidState, [1], Reader, "row", [value, GOOD, value])
            self.assert_error(InvalidState, [1], Reader, "row", [GOOD, value, None])
            self.assert_error(InvalidState, [1], Reader, "row", [GOOD, None, value])

    def test_states_lead_to_those_that_are_there(self):
        for many in range(1, 7):
            for following in range(-1, 8):
                for state in [(2, (1, 3), following, None), (2, (1, 3), None, following)]:
                    states = [GOOD] * (many - 1) + [state]
                    if 0 <= following < many:
                        self.assert_same(Reader("row", states).states(), states)
                    else:
                        self.assert_error(InvalidState, [many - 1], Reader, "row", states)

    def test_a_seventh_state(self):
        self.assertEqual(len(Reader("row", [GOOD] * 6)), 6)
        for many in (7, 8, 20):
            self.assert_error(InvalidState, [6], Reader, "row", [GOOD] * many)
        self.assert_error(InvalidState, [6], Reader, "row", [GOOD] * 6 + [None])
        self.assert_error(InvalidState, [5], Reader, "row", [GOOD] * 5 + [None, GOOD])
        self.assert_error(InvalidState, [5], Reader, "row", [GOOD] * 5 + [UNLIKE[0], GOOD])

    def test_each_state_is_looked_at_with_the_number_of_states_that_are_passed(self):
        self.assert_error(InvalidState, [6], Reader, "row", [(2, (1, 3), 6, 6)] * 7)
        self.assert_error(InvalidState, [0], Reader, "row", [(2, (1, 3), 7, None)] * 7)
