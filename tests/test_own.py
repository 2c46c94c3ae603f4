"""Point 2: nothing handed in is changed, what is told is the asker's own, and the same question has the same answer."""

import unittest

from leadbeats.canons import Canon
from leadbeats.counts import as_number, bar, fitting, growth, longest_tune
from leadbeats.tables import Table, both_of, loops, renamed, turned
from leadbeats.tunes import (all_tunes, fault, first_note, goes_on, last_note, mended, next_notes, tune_at,
                             tune_number)
from leadbeats.words import (apart, first_word, last_word, longest, many_words, may, needless, number_of, widened,
                             word_at, word_fault)

CANON = Canon(1, 0, 2, 1)
TABLE = Table(3, 2, [(2, 1), (0, 1), (1, 0), (0, 0)])
ENDING = Table(3, 2, [(0, 1), (1, 2)])
KNOWN = [(3, 0), (1, 1)]
TUNE = [0, 1, 2, 0]
NAMES = [1, 2, 0]
WORD = [2, 1, 0, 0]

# Every function of the modules, asked with things that could be changed.
QUESTIONS = (
    lambda: TABLE.allowed(), lambda: loops(TABLE), lambda: turned(TABLE).allowed(),
    lambda: renamed(TABLE, NAMES).allowed(), lambda: both_of(TABLE, ENDING).allowed(),
    lambda: many_words(TABLE, 5, known=KNOWN), lambda: may(TABLE, 5, 0, known=KNOWN),
    lambda: first_word(TABLE, 5, known=KNOWN), lambda: last_word(TABLE, 5, known=KNOWN),
    lambda: word_at(TABLE, 5, 1, known=KNOWN), lambda: number_of(TABLE, WORD), lambda: word_fault(TABLE, WORD),
    lambda: longest(ENDING), lambda: needless(TABLE, 1), lambda: needless(ENDING, 4), lambda: apart(TABLE, ENDING),
    lambda: apart(ENDING, Table(3, 2, [(1, 2)])), lambda: widened(TABLE).allowed(), lambda: fitting(CANON, TABLE, 9),
    lambda: fitting(CANON, ENDING, 99), lambda: fitting(CANON, ENDING, 0), lambda: bar(CANON, ENDING, 99),
    lambda: longest_tune(CANON, ENDING), lambda: growth(CANON, TABLE, 9), lambda: as_number(CANON, TABLE, 9),
    lambda: fault(CANON, TABLE, TUNE), lambda: fault(CANON, TABLE, [1, 1]), lambda: first_note(CANON, TABLE, 9, 5),
    lambda: last_note(CANON, TABLE, 9, 5), lambda: all_tunes(CANON, TABLE, 3), lambda: tune_at(CANON, TABLE, 9, 7),
    lambda: tune_number(CANON, TABLE, TUNE), lambda: mended(CANON, TABLE, TUNE), lambda: mended(CANON, TABLE, [1, 1]),
    lambda: next_notes(CANON, TABLE, TUNE), lambda: goes_on(CANON, TABLE, TUNE), lambda: goes_on(CANON, ENDING, [0]),
)


def spoilt(thing):
    """Change all lists in a thing, those in tuples and lists too."""
    if isinstance(thing, (list, tuple)):
        for part in thing:
            spoilt(part)
    if isinstance(thing, list):
        thing.append("spoilt")
        thing[0] = None


class Own(unittest.TestCase):
    def test_told_lists_are_the_askers_own(self):
        answers = [repr(ask()) for ask in QUESTIONS]
        for ask, told in zip(QUESTIONS, answers):
            spoilt(ask())
            self.assertEqual(repr(ask()), told)
        self.assertEqual([repr(ask()) for ask in QUESTIONS], answers)

    def test_nothing_handed_in_is_changed(self):
        for ask in QUESTIONS:
            ask()
            self.assertEqual((KNOWN, TUNE, NAMES, WORD), ([(3, 0), (1, 1)], [0, 1, 2, 0], [1, 2, 0], [2, 1, 0, 0]))
            self.assertEqual(TABLE.allowed(), [(0, 0), (0, 1), (1, 0), (2, 1)])
            self.assertEqual((TABLE.notes(), TABLE.voices(), CANON.numbers()), (3, 2, (1, 0, 2, 1)))

    def test_a_tune_that_fits_is_told_as_a_new_list(self):
        told = mended(CANON, TABLE, TUNE)
        self.assertEqual(told, (0, TUNE))
        self.assertIsNot(told[1], TUNE)

    def test_known_notes_are_read_as_they_are_then(self):
        known = [(0, 0)]
        self.assertEqual(first_word(TABLE, 3, known=known), [0, 0, 0])
        known[0] = (0, 2)
        self.assertEqual(first_word(TABLE, 3, known=known), [2, 1, 0])
        known.append((1, 0))
        self.assertIsNone(first_word(TABLE, 3, known=known))
        self.assertEqual(many_words(TABLE, 3, known=known), 0)
        known.clear()
        self.assertEqual(many_words(TABLE, 3, known=known), many_words(TABLE, 3))

    def test_tunes_words_and_names_are_read_as_they_are_then(self):
        tune, names = [0, 1], [0, 1, 2]
        self.assertIsNone(fault(CANON, TABLE, tune))
        tune[0] = 1
        self.assertEqual(fault(CANON, TABLE, tune), (0, (0, 1)))
        self.assertEqual(word_fault(TABLE, tune), 0)
        tune[0] = 2
        self.assertEqual((word_fault(TABLE, tune), number_of(TABLE, tune)), (None, 3))
        other = renamed(TABLE, names)
        names[:] = [2, 1, 0]
        self.assertEqual((other, renamed(TABLE, names).allowed()), (TABLE, [(0, 1), (1, 2), (2, 1), (2, 2)]))

    def test_equal_things_have_the_same_answers(self):
        again = Table(3, 2, [(1, 0), (0, 0), (2, 1), (0, 1)])
        self.assertEqual(again, TABLE)
        for length in range(6):
            self.assertEqual(many_words(again, length), many_words(TABLE, length))
        self.assertEqual(fitting(Canon(1, 0, 2, 1), again, 9), fitting(CANON, TABLE, 9))


if __name__ == "__main__":
    unittest.main()
