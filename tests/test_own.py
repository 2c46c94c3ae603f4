"""Point 2: nothing handed in is changed, what is told is the asker's own, and the same question has the same answer."""

import unittest

from leadbeats.canons import Canon
from leadbeats.counts import as_number, bar, fitting, growth, longest_tune
from leadbeats.efforts import least_effort, least_note, least_word, sheet_of, shown_by
from leadbeats.heard import clash_of, is_clash, least_heard, many_heard, may_have, surely
from leadbeats.songs import clashes, least_changes, song_fault, song_lasts, songs, together
from leadbeats.tables import Table, both_of, loops, renamed, turned
from leadbeats.tunes import (all_tunes, fault, first_note, goes_on, last_note, mended, next_notes, tune_at,
                             tune_number)
from leadbeats.which import canons_of, furthest, least_canon, rests_of, rests_shared
from leadbeats.words import (apart, first_word, last_word, longest, many_words, may, needless, number_of, widened,
                             word_at, word_fault)

CANON = Canon(1, 0, 2, 1)
TABLE = Table(3, 2, [(2, 1), (0, 1), (1, 0), (0, 0)])
ENDING = Table(3, 2, [(0, 1), (1, 2)])
KNOWN = [(3, 0), (1, 1)]
TUNE = [0, 1, 2, 0]
NAMES = [1, 2, 0]
WORD = [2, 1, 0, 0]
HEARD = [(3, 1), (5, 0), (0, 1)]
CLASHING = [(1, 1), (4, 2), (0, 1)]
CLASH = (0, 4, [(0, 1), (1, 1)])
PRICES = [3, 1, 2]
SHEET = [{(0,): 1, (1,): 3, (2,): 1}, {(0,): 0, (1,): 0, (2,): 0}]
SONG = [0, 1, 0]
ROUNDS = [[0, 1, 0], [1, 0, 0]]
HANDED = (KNOWN, TUNE, NAMES, WORD, HEARD, CLASHING, CLASH, PRICES, SHEET, SONG, ROUNDS)

# Every function of the modules, asked with things that could be changed.
QUESTIONS = (
    lambda: TABLE.allowed(), lambda: loops(TABLE), lambda: turned(TABLE).allowed(),
    lambda: renamed(TABLE, NAMES).allowed(), lambda: both_of(TABLE, ENDING).allowed(),
    lambda: many_words(TABLE, 5, known=KNOWN), lambda: may(TABLE, 5, 0, known=KNOWN),
    lambda: first_word(TABLE, 5, known=KNOWN), lambda: last_word(TABLE, 5, known=KNOWN),
    lambda: word_at(TABLE, 5, 1, known=KNOWN), lambda: number_of(TABLE, WORD), lambda: word_fault(TABLE, WORD),
    lambda: longest(ENDING), lambda: needless(TABLE, 1), lambda: needless(ENDING, 4), lambda: apart(TABLE, ENDING),
    lambda: apart(ENDING, Table(3, 2, [(1, 2)])), lambda: widened(TABLE).allowed(), lambda: fitting(CANON, TABLE, 9),
    lambda: fitting(CANON, ENDING, 99), lambda: fitting(CANON, ENDING, 0), lambda: bar(CANON, ENDING, 99),
    lambda: longest_tune(CANON, ENDING), lambda: growth(CANON, TABLE, 9), lambda: as_number(CANON, TABLE, 9),
    lambda: fault(CANON, TABLE, TUNE), lambda: fault(CANON, TABLE, [1, 1]), lambda: first_note(CANON, TABLE, 9, 5),
    lambda: last_note(CANON, TABLE, 9, 5), lambda: all_tunes(CANON, TABLE, 3), lambda: tune_at(CANON, TABLE, 9, 7),
    lambda: tune_number(CANON, TABLE, TUNE), lambda: mended(CANON, TABLE, TUNE), lambda: mended(CANON, TABLE, [1, 1]),
    lambda: next_notes(CANON, TABLE, TUNE), lambda: goes_on(CANON, TABLE, TUNE), lambda: goes_on(CANON, ENDING, [0]),
    lambda: many_heard(CANON, TABLE, 9, HEARD), lambda: many_heard(CANON, TABLE, 9, CLASHING),
    lambda: many_heard(CANON, TABLE, 0, []), lambda: may_have(CANON, TABLE, 9, HEARD, 1),
    lambda: surely(CANON, TABLE, 9, HEARD), lambda: clash_of(CANON, TABLE, 9, CLASHING),
    lambda: clash_of(CANON, ENDING, 99, []), lambda: is_clash(CANON, TABLE, 9, CLASHING, CLASH),
    lambda: least_heard(CANON, TABLE, 9, CLASHING), lambda: least_heard(CANON, ENDING, 99, HEARD),
    lambda: least_word(TABLE, PRICES, 5, known=KNOWN), lambda: least_effort(CANON, TABLE, PRICES, 9, heard=HEARD),
    lambda: least_note(CANON, TABLE, PRICES, 9, 7, heard=HEARD), lambda: sheet_of(TABLE, PRICES, 2),
    lambda: sheet_of(TABLE, PRICES, 7), lambda: sheet_of(ENDING, PRICES, 7), lambda: shown_by(TABLE, PRICES, 2, SHEET),
    lambda: song_fault(CANON, TABLE, SONG), lambda: song_lasts(CANON, TABLE, SONG),
    lambda: clashes(CANON, TABLE, SONG, 99), lambda: together(CANON, TABLE, 4), lambda: songs(CANON, TABLE, 3),
    lambda: least_changes(CANON, TABLE, SONG, 99), lambda: rests_of(TABLE, SONG), lambda: least_canon(TABLE, SONG),
    lambda: rests_shared(TABLE, ROUNDS), lambda: canons_of(TABLE, TUNE, 3, 2), lambda: furthest(TABLE, TUNE, 3, 0),
)


def spoilt(thing):
    """Change all lists and dicts in a thing, those in tuples and lists too."""
    if isinstance(thing, (list, tuple)):
        for part in thing:
            spoilt(part)
    if isinstance(thing, dict):
        thing[(0,)] = "spoilt"
    if isinstance(thing, list):
        thing.append("spoilt")
        thing[0] = None


class Own(unittest.TestCase):
    def test_told_lists_are_the_askers_own(self):
        answers = [repr(ask()) for ask in QUESTIONS]
        for ask, told in zip(QUESTIONS, answers):
            spoilt(ask())
            self.assertEqual(repr(ask()), told)
        self.assertEqual([repr(ask()) for ask in QUESTIONS], answers)

    def test_nothing_handed_in_is_changed(self):
        before = repr(HANDED)
        for ask in QUESTIONS:
            ask()
            self.assertEqual(repr(HANDED), before)
            self.assertEqual(TABLE.allowed(), [(0, 0), (0, 1), (1, 0), (2, 1)])
            self.assertEqual((TABLE.notes(), TABLE.voices(), CANON.numbers()), (3, 2, (1, 0, 2, 1)))

    def test_a_tune_that_fits_is_told_as_a_new_list(self):
        told = mended(CANON, TABLE, TUNE)
        self.assertEqual(told, (0, TUNE))
        self.assertIsNot(told[1], TUNE)

    def test_known_notes_are_read_as_they_are_then(self):
        known = [(0, 0)]
        self.assertEqual(first_word(TABLE, 3, known=known), [0, 0, 0])
        known[0] = (0, 2)
        self.assertEqual(first_word(TABLE, 3, known=known), [2, 1, 0])
        known.append((1, 0))
        self.assertIsNone(first_word(TABLE, 3, known=known))
        self.assertEqual(many_words(TABLE, 3, known=known), 0)
        known.clear()
        self.assertEqual(many_words(TABLE, 3, known=known), many_words(TABLE, 3))

    def test_tunes_words_and_names_are_read_as_they_are_then(self):
        tune, names = [0, 1], [0, 1, 2]
        self.assertIsNone(fault(CANON, TABLE, tune))
        tune[0] = 1
        self.assertEqual(fault(CANON, TABLE, tune), (0, (0, 1)))
        self.assertEqual(word_fault(TABLE, tune), 0)
        tune[0] = 2
        self.assertEqual((word_fault(TABLE, tune), number_of(TABLE, tune)), (None, 3))
        other = renamed(TABLE, names)
        names[:] = [2, 1, 0]
        self.assertEqual((other, renamed(TABLE, names).allowed()), (TABLE, [(0, 1), (1, 2), (2, 1), (2, 2)]))

    def test_heard_notes_are_read_as_they_are_then(self):
        heard = [(0, 1)]
        self.assertEqual(may_have(CANON, TABLE, 2, heard, 1), [0])
        heard[0] = (0, 0)
        self.assertEqual(may_have(CANON, TABLE, 2, heard, 1), [0, 1])
        heard.append((1, 2))
        self.assertEqual(many_heard(CANON, TABLE, 2, heard), [])
        clash = clash_of(CANON, TABLE, 2, heard)
        self.assertEqual((clash, least_heard(CANON, TABLE, 2, heard)), ((0, 2, [(0, 0), (1, 2)]), [1]))
        self.assertIsNone(least_effort(CANON, TABLE, PRICES, 2, heard=heard))
        self.assertTrue(is_clash(CANON, TABLE, 2, heard, clash))
        clash[2].pop()
        self.assertFalse(is_clash(CANON, TABLE, 2, heard, clash))
        heard.clear()
        self.assertEqual(surely(CANON, TABLE, 2, heard), [])
        self.assertEqual(least_effort(CANON, TABLE, PRICES, 2, heard=heard), 3)

    def test_prices_and_sheets_are_read_as_they_are_then(self):
        prices = [3, 1, 2]
        self.assertEqual(least_word(TABLE, prices, 2), (3, [2, 1]))
        sheet = sheet_of(TABLE, prices, 2)
        self.assertEqual(shown_by(TABLE, prices, 2, sheet), ("least", 3))
        prices[0] = 0
        self.assertEqual((least_word(TABLE, prices, 2), least_effort(CANON, TABLE, prices, 2)), ((0, [0, 0]), 0))
        self.assertEqual(least_note(CANON, TABLE, prices, 2, 1), 0)
        self.assertIsNone(shown_by(TABLE, prices, 2, sheet))
        self.assertEqual(shown_by(TABLE, prices, 2, sheet_of(TABLE, prices, 2)), ("least", 0))
        sheet[0] = {tail: 0 for tail in sheet[0]}
        self.assertEqual(shown_by(TABLE, prices, 2, sheet), ("least", 0))
        sheet[0][(1,)] = 1
        self.assertIsNone(shown_by(TABLE, prices, 2, sheet))

    def test_songs_and_rounds_are_read_as_they_are_then(self):
        song = [0, 0]
        self.assertIsNone(song_fault(CANON, TABLE, song))
        rests = rests_of(TABLE, song)
        self.assertEqual((len(rests), least_changes(CANON, TABLE, song, 99)), (16, 0))
        song[1] = 1
        self.assertEqual(song_fault(CANON, TABLE, song), (1, (1, 3)))
        self.assertEqual((song_lasts(CANON, TABLE, song), clashes(CANON, TABLE, song, 4)), (3, 1))
        self.assertLess(len(rests_of(TABLE, song)), 16)
        rounds = [[0, 0], song]
        self.assertEqual(rests_shared(TABLE, rounds), rests_of(TABLE, song))
        song[1] = 0
        self.assertEqual(rests_shared(TABLE, rounds), rests)
        tune = [0, 0, 0]
        self.assertEqual(furthest(TABLE, tune, 2, 0), (3, (1, 0, 2, 0)))
        tune[0] = 1
        self.assertEqual((furthest(TABLE, tune, 2, 0), canons_of(TABLE, tune, 2, 0)), ((0, (1, 0, 2, 0)), []))

    def test_equal_things_have_the_same_answers(self):
        again = Table(3, 2, [(1, 0), (0, 0), (2, 1), (0, 1)])
        self.assertEqual(again, TABLE)
        for length in range(6):
            self.assertEqual(many_words(again, length), many_words(TABLE, length))
        self.assertEqual(fitting(Canon(1, 0, 2, 1), again, 9), fitting(CANON, TABLE, 9))
        for heard in ([(1, 1), (4, 2), (0, 1)], ((1, 1), (4, 2), (0, 1))):
            self.assertEqual(clash_of(Canon(1, 0, 2, 1), again, 9, heard), clash_of(CANON, TABLE, 9, CLASHING))
        self.assertEqual(sheet_of(again, list(PRICES), 6), sheet_of(TABLE, PRICES, 6))


if __name__ == "__main__":
    unittest.main()
