"""Points 4, 32, 33, 35, 37 and 38: what the functions of tunes refuse, by class and field, and in which order."""

import itertools
import unittest

from leadbeats.canons import Canon
from leadbeats.errors import BadTune, NoBeat, NoLength, NoNumber, TooMany
from leadbeats.tables import Table
from leadbeats.tunes import (all_tunes, fault, first_note, goes_on, last_note, mended, next_notes, tune_at,
                             tune_number)
from tests.trials import full_table
from tests.walks import GREAT, NO_WHOLES

# Of three beats four tunes fit: beat 1 has another note than beat 0.
CANON = Canon(1, 0, 2, 1)
TABLE = Table(2, 2, [(0, 1), (1, 0)])

NO_LENGTHS = [(thing, NoLength, "length", thing) for thing in NO_WHOLES]
TOO_LONG = [(thing, NoLength, "length", thing) for thing in (301, 302, 9 * GREAT)]
NO_BEATS = [(thing, NoBeat, "beat", thing) for thing in NO_WHOLES + (3, 4, 9 * GREAT)]
NO_NUMBERS = [(thing, NoNumber, "number", thing) for thing in NO_WHOLES + (4, 5, 9 * GREAT)]
NO_TUNES = [(thing, BadTune, "at", at) for thing, at in (
    (None, -1), (True, -1), (0, -1), ("", -1), ("01", -1), ((), -1), ((0, 1), -1), ({}, -1), ({0: 1}, -1), (b"", -1),
    (object(), -1), ([0] * 301, -1), ([0] * 1000, -1), ([2], 0), ([-1], 0), ([True], 0), ([None], 0), (["0"], 0),
    ([[]], 0), ([{}], 0), ([(0,)], 0), ([0, 1, 0, 2, None], 3), ([0, 1, False], 2), ([0, 1, 1, GREAT], 3),
    ([0, 0, 2], 2), ([0] * 299 + [None], 299))]
# These have notes alone, but do not fit.
NO_FIT = [([0, 0], BadTune, "at", 2), ([0, 1, 0, 1], BadTune, "at", 4), ([0] * 300, BadTune, "at", 300)]

# Every function with good arguments, and for each one what refuses it, in the told order.
ASKED = (
    (fault, {"tune": [0, 1]}, {"tune": NO_TUNES}),
    (first_note, {"n": 3, "beat": 1}, {"n": NO_LENGTHS, "beat": NO_BEATS}),
    (last_note, {"n": 3, "beat": 1}, {"n": NO_LENGTHS, "beat": NO_BEATS}),
    (all_tunes, {"n": 3}, {"n": NO_LENGTHS + TOO_LONG}),
    (tune_at, {"n": 3, "number": 3}, {"n": NO_LENGTHS + TOO_LONG, "number": NO_NUMBERS}),
    (tune_number, {"tune": [0, 1]}, {"tune": NO_TUNES + NO_FIT}),
    (mended, {"tune": [0, 1]}, {"tune": NO_TUNES}),
    (next_notes, {"tune": [0, 1]}, {"tune": NO_TUNES + NO_FIT}),
    (goes_on, {"tune": [0, 1]}, {"tune": NO_TUNES + NO_FIT}),
)


class Refused(unittest.TestCase):
    def refused(self, ask, told, refusal, field, worth, table=TABLE):
        with self.assertRaises(refusal) as caught:
            ask(CANON, table, **told)
        if field == "at":
            self.assertEqual(caught.exception.at, worth, (ask.__name__, told))
        else:
            self.assertIs(getattr(caught.exception, field), worth, (ask.__name__, told))

    def test_good_arguments_are_taken(self):
        for ask, good, amiss in ASKED:
            ask(CANON, TABLE, **good)
            ask(CANON, TABLE, *good.values())

    def test_one_thing_amiss(self):
        for ask, good, amiss in ASKED:
            for name in good:
                for thing, refusal, field, worth in amiss[name]:
                    self.refused(ask, {**good, name: thing}, refusal, field, worth)

    def test_two_things_amiss(self):
        for ask, good, amiss in ASKED:
            for one, other in itertools.combinations(good, 2):
                for thing, refusal, field, worth in amiss[one]:
                    for later, *told in amiss[other]:
                        self.refused(ask, {one: thing, other: later}, refusal, field, worth)

    def test_beats_are_below_n(self):
        for ask in (first_note, last_note):
            for n in (0, 1, 5, 9 * GREAT):
                self.refused(ask, {"n": n, "beat": n}, NoBeat, "beat", n)
                # Where no tune fits, too.
                self.refused(ask, {"n": n, "beat": n}, NoBeat, "beat", n, Table(2, 2, []))

    def test_no_number_of_no_tune(self):
        for n, number in ((2, 0), (300, 0), (5, 1)):
            self.refused(tune_at, {"n": n, "number": number}, NoNumber, "number", number, Table(2, 2, []))
        self.assertEqual(tune_at(CANON, TABLE, 0, 0), [])
        self.refused(tune_at, {"n": 0, "number": 1}, NoNumber, "number", 1)

    def test_too_long_is_told_ahead_of_too_many(self):
        for n in (301, 9 * GREAT):
            self.refused(all_tunes, {"n": n}, NoLength, "length", n, full_table(4, 2))
            self.refused(all_tunes, {"n": n}, NoLength, "length", n, Table(2, 2, []))
        for n in (20, 300):
            with self.assertRaises(TooMany) as caught:
                all_tunes(CANON, full_table(4, 2), n)
            self.assertEqual(caught.exception.many, 400)

    def test_what_fits_is_taken_up_to_three_hundred(self):
        tune = tune_at(CANON, TABLE, 300, 12345)
        self.assertEqual(tune_number(CANON, TABLE, tune), 12345)
        self.assertIsNone(fault(CANON, TABLE, tune))
        self.assertEqual(mended(CANON, TABLE, tune), (0, tune))
        self.assertEqual(next_notes(CANON, TABLE, tune), [0, 1])
        self.assertIsNone(goes_on(CANON, TABLE, tune))
        for ask in (fault, tune_number, mended, next_notes, goes_on):
            self.refused(ask, {"tune": tune + [0]}, BadTune, "at", -1)
            self.refused(ask, {"tune": tuple(tune)}, BadTune, "at", -1)


if __name__ == "__main__":
    unittest.main()
