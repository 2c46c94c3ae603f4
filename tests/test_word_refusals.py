"""Points 4 and 26: what the functions of words refuse, by class and field, and in which order."""

import itertools
import unittest

from leadbeats.errors import BadKnown, NoLength, NoNumber, NoPlace, NoWord
from leadbeats.tables import Table
from leadbeats.words import (first_word, last_word, many_words, may, needless, number_of, word_at, word_fault)
from tests.walks import GREAT, NO_WHOLES

# Words of 0s and 1s without two 1s side by side; five of them have three notes.
TABLE = Table(2, 2, [(0, 0), (0, 1), (1, 0)])

BAD_LENGTHS = [(thing, NoLength, "length", thing) for thing in NO_WHOLES + (301, 302, 9 * GREAT)]
BAD_KNOWN = [(thing, BadKnown, "at", at) for thing, at in (
    (None, -1), (True, -1), (0, -1), ("", -1), ("ab", -1), ({}, -1), ({(0, 0): 1}, -1), ({(0, 0)}, -1), (b"", -1),
    ([None], 0), ([0], 0), ([[0, 0]], 0), ([()], 0), ([(0,)], 0), ([(0, 0, 0)], 0), ([(3, 0)], 0), ([(-1, 0)], 0),
    ([(0, 2)], 0), ([(0, -1)], 0), ([(True, 0)], 0), ([(0, True)], 0), ([("0", 0)], 0), ([(0, None)], 0),
    ([([], 0)], 0), ([(0, {})], 0), ([(0, 0), (0, 0)], 1), ([(0, 0), (0, 1)], 1), (((0, 0), (1, 0), (0, 1)), 2),
    (((2, 0), (1, 0), [0, 1]), 2), ((0, 0), 0), ([(2, 1), (1, 1), (4, 0), (2, 1)], 2), (((GREAT, 0),), 0),
    ([(2, 1), (2, 1), (4, 0)], 1))]
BAD_PLACES = [(thing, NoPlace, "place", thing) for thing in NO_WHOLES + (3, 4, 300, 9 * GREAT)]
BAD_NUMBERS = [(thing, NoNumber, "number", thing) for thing in NO_WHOLES + (5, 6, 9 * GREAT)]

GOOD = {"length": 3, "known": (), "place": 1, "number": 4}
AMISS = {"length": BAD_LENGTHS, "known": BAD_KNOWN, "place": BAD_PLACES, "number": BAD_NUMBERS}

# Every function with its arguments, in the order in which they are refused.
ASKED = ((many_words, ("length", "known")), (may, ("length", "known", "place")), (first_word, ("length", "known")),
         (last_word, ("length", "known")), (word_at, ("length", "known", "number")), (needless, ("length",)))

# What is no list of notes of at most three hundred, and the place of its field.
NO_NOTES = ((None, -1), (True, -1), (0, -1), ("", -1), ("01", -1), ((), -1), ((0, 1), -1), ({}, -1), ({0: 1}, -1),
            (b"", -1), (object(), -1), ([0] * 301, -1), ([0] * 1000, -1), ([2], 0), ([-1], 0), ([True], 0), ([None], 0),
            (["0"], 0), ([[]], 0), ([{}], 0), ([(0,)], 0), ([0, 1, 0, 2, None], 3), ([0, 0, False], 2),
            ([1, 1, 1, GREAT], 3), ([0] * 299 + [None], 299))


class Refused(unittest.TestCase):
    def refused(self, ask, told, refusal, field, worth):
        with self.assertRaises(refusal) as caught:
            ask(TABLE, **told)
        if field == "at":
            self.assertEqual(caught.exception.at, worth, (ask.__name__, told))
        else:
            self.assertIs(getattr(caught.exception, field), worth, (ask.__name__, told))

    def test_good_arguments_are_taken(self):
        for ask, names in ASKED:
            ask(TABLE, **{name: GOOD[name] for name in names})

    def test_one_thing_amiss(self):
        for ask, names in ASKED:
            good = {name: GOOD[name] for name in names}
            for name in names:
                for thing, refusal, field, worth in AMISS[name]:
                    self.refused(ask, {**good, name: thing}, refusal, field, worth)

    def test_two_things_amiss(self):
        for ask, names in ASKED:
            good = {name: GOOD[name] for name in names}
            for one, other in itertools.combinations(names, 2):
                for thing, refusal, field, worth in AMISS[one]:
                    for later, *told in AMISS[other]:
                        self.refused(ask, {**good, one: thing, other: later}, refusal, field, worth)

    def test_all_things_amiss(self):
        for ask, names in ASKED:
            for thing, refusal, field, worth in BAD_LENGTHS:
                self.refused(ask, {name: thing for name in names}, refusal, field, worth)

    def test_the_bounds(self):
        self.assertEqual(many_words(TABLE, 0, known=[]), 1)
        for length in (0, 1, 2):
            self.refused(may, {"length": length, "place": length}, NoPlace, "place", length)
            self.refused(many_words, {"length": length, "known": [(length, 0)]}, BadKnown, "at", 0)
        self.assertGreater(many_words(TABLE, 300, known=[(299, 0)]), 0)
        self.refused(many_words, {"length": 300, "known": [(300, 0)]}, BadKnown, "at", 0)

    def test_numbers_are_below_the_words_with_known_notes(self):
        self.assertEqual(word_at(TABLE, 3, 2, known=[(0, 0)]), [0, 1, 0])
        self.refused(word_at, {"length": 3, "known": [(0, 0)], "number": 3}, NoNumber, "number", 3)
        self.refused(word_at, {"length": 3, "known": [(0, 1), (1, 1)], "number": 0}, NoNumber, "number", 0)
        self.assertEqual(word_at(TABLE, 0, 0), [])
        self.refused(word_at, {"length": 0, "number": 1}, NoNumber, "number", 1)


class NoWords(unittest.TestCase):
    def test_no_list_of_notes(self):
        for ask in (number_of, word_fault):
            for thing, at in NO_NOTES:
                with self.assertRaises(NoWord) as caught:
                    ask(TABLE, thing)
                self.assertEqual(caught.exception.at, at, thing)

    def test_number_of_takes_words_alone(self):
        self.assertEqual((number_of(TABLE, [0] * 300), word_fault(TABLE, [0] * 300)), (0, None))
        for notes, at in (([1, 1], 0), ([0, 1, 1, 0], 1), ([0, 1, 0, 1, 1, 1], 3), ([0] * 298 + [1, 1], 298)):
            self.assertEqual(word_fault(TABLE, notes), at)
            with self.assertRaises(NoWord) as caught:
                number_of(TABLE, notes)
            self.assertEqual(caught.exception.at, at)

    def test_no_note_is_told_ahead_of_no_word(self):
        for ask in (number_of, word_fault):
            with self.assertRaises(NoWord) as caught:
                ask(TABLE, [1, 1, 0, 7])
            self.assertEqual(caught.exception.at, 3)

    def test_nothing_handed_in_is_changed(self):
        thing = [[1], {"a": [2]}]
        for ask, told in ((number_of, {"word": thing}), (word_fault, {"word": thing}),
                          (many_words, {"length": thing}), (many_words, {"length": 3, "known": thing}),
                          (may, {"length": 3, "place": thing}), (word_at, {"length": 3, "number": thing})):
            with self.assertRaises((NoWord, NoLength, BadKnown, NoPlace, NoNumber)):
                ask(TABLE, **told)
            self.assertEqual(thing, [[1], {"a": [2]}])


if __name__ == "__main__":
    unittest.main()
