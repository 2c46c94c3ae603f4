"""Points 4, 11, 14, 15, 16 and 18: what the functions of rows refuse, and in which order."""

import unittest

from leadbeats.canons import Canon
from leadbeats.errors import NoBeat, NoLength, NoRow
from leadbeats.rows import begun, joins, least_for, longest, members, row, row_at, rows, runs
from tests.walks import GREAT, NO_WHOLES

CANON = Canon(1, 0, 2, 0)

# Every function with arguments that are good, each with what refuses it and by which field, in the told order.
ASKED = (
    (members, (("n", 10, NoLength, "length"), ("beat", 3, NoBeat, "beat"))),
    (row, (("n", 10, NoLength, "length"), ("beat", 3, NoBeat, "beat"))),
    (runs, (("n", 10, NoLength, "length"), ("length", 2, NoLength, "length"))),
    (rows, (("n", 10, NoLength, "length"),)),
    (longest, (("n", 10, NoLength, "length"),)),
    (begun, (("n", 10, NoLength, "length"), ("length", 1, NoLength, "length"), ("beat", 5, NoBeat, "beat"))),
    (row_at, (("n", 10, NoLength, "length"), ("length", 1, NoLength, "length"), ("number", 1, NoRow, "at"))),
    (least_for, (("length", 3, NoLength, "length"),)),
    (joins, (("n", 10, NoLength, "length"),)),
)


class Refused(unittest.TestCase):
    def refused(self, ask, told, refusal, field, thing):
        with self.assertRaises(refusal) as caught:
            ask(CANON, **told)
        self.assertIs(getattr(caught.exception, field), thing, (ask.__name__, told))

    def test_good_arguments_are_taken(self):
        for ask, arguments in ASKED:
            ask(CANON, *[good for name, good, refusal, field in arguments])

    def test_one_thing_amiss(self):
        for ask, arguments in ASKED:
            good = {name: worth for name, worth, refusal, field in arguments}
            for name, worth, refusal, field in arguments:
                for thing in NO_WHOLES:
                    self.refused(ask, {**good, name: thing}, refusal, field, thing)

    def test_several_things_amiss(self):
        for ask, arguments in ASKED:
            good = {name: worth for name, worth, refusal, field in arguments}
            for at, (name, worth, refusal, field) in enumerate(arguments):
                for later, *told in arguments[at + 1:]:
                    for thing in NO_WHOLES:
                        self.refused(ask, {**good, name: thing, later: [thing]}, refusal, field, thing)

    def test_no_beat_of_the_tune(self):
        for ask in (members, row):
            for beat in (10, 11, 9 * GREAT):
                self.refused(ask, {"n": 10, "beat": beat}, NoBeat, "beat", beat)
            self.refused(ask, {"n": 0, "beat": 0}, NoBeat, "beat", 0)

    def test_rows_have_lengths_from_one_on(self):
        self.refused(runs, {"n": 10, "length": 0}, NoLength, "length", 0)
        self.refused(begun, {"n": 10, "length": 0, "beat": -1}, NoLength, "length", 0)
        self.refused(row_at, {"n": 10, "length": 0, "number": -1}, NoLength, "length", 0)
        self.refused(least_for, {"length": 0}, NoLength, "length", 0)

    def test_begun_takes_beats_beyond_the_tune(self):
        self.assertEqual(begun(CANON, 10, 1, 10), begun(CANON, 10, 1, 9 * GREAT))
        self.assertEqual(begun(CANON, 0, 1, 9 * GREAT), 0)

    def test_no_number_of_a_row(self):
        self.assertEqual([row_at(CANON, 10, 1, number) for number in range(3)], [5, 7, 9])
        for length, number in ((1, 3), (1, 9 * GREAT), (2, 1), (3, 0), (5, 0), (GREAT, 0)):
            self.refused(row_at, {"n": 10, "length": length, "number": number}, NoRow, "at", number)
        self.refused(row_at, {"n": 0, "length": 1, "number": 0}, NoRow, "at", 0)
        # The loop is no row.
        self.refused(row_at, {"n": 1, "length": 1, "number": 0}, NoRow, "at", 0)

    def test_least_for_is_told_up_to_a_hundred(self):
        self.assertEqual(least_for(CANON, 100), 2 ** 99 + 1)
        for length in (101, 102, 9 * GREAT):
            self.refused(least_for, {"length": length}, NoLength, "length", length)
        with self.assertRaises(NoLength):
            least_for(Canon(4, 6, 6, 3), 101)

    def test_nothing_handed_in_is_changed(self):
        for ask, arguments in ASKED:
            for name, worth, refusal, field in arguments:
                good = {other: told for other, told, *more in arguments}
                thing = [[1], {"a": [2]}]
                with self.assertRaises(refusal):
                    ask(CANON, **{**good, name: thing})
                self.assertEqual(thing, [[1], {"a": [2]}])
        self.assertEqual(CANON.numbers(), (1, 0, 2, 0))


if __name__ == "__main__":
    unittest.main()
