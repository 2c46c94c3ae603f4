"""Points 4, 39, 44, 45, 48, 49, 52, 54 and 59: what heard, efforts, songs and which refuse, and in which order."""

import itertools
import unittest

from leadbeats.canons import Canon
from leadbeats.efforts import least_effort, least_note, least_word, sheet_of, shown_by
from leadbeats.errors import BadHeard, BadKnown, BadPrices, BadTune, NoBeat, NoLength, NoNumber, Unlike
from leadbeats.heard import clash_of, is_clash, least_heard, many_heard, may_have, surely
from leadbeats.songs import clashes, least_changes, song_fault, song_lasts, songs, together
from leadbeats.tables import Table
from leadbeats.which import canons_of, furthest, least_canon, rests_of, rests_shared
from tests.trials import full_table
from tests.walks import GREAT, NO_WHOLES

CANON = Canon(1, 0, 2, 1)
TABLE = Table(2, 2, [(0, 1), (1, 0)])
# A table by which nothing fits: refusals come ahead of that.
NONE = Table(2, 2, [])

NO_LISTS = (None, True, False, 0, 1, -1, "", "01", {}, {0: 1}, b"", b"01", object())
NO_NOTES = (2, 3, -1, GREAT, True, False, None, "0", "", [], [0], {}, (), (0,), b"0", object())

NO_BEATS = [(thing, NoBeat, "beat", thing) for thing in NO_WHOLES + (9, 10, 9 * GREAT)]
NO_LENGTHS = [(thing, NoLength, "length", thing) for thing in NO_WHOLES]
NO_WORD_LENGTHS = NO_LENGTHS + [(thing, NoLength, "length", thing) for thing in (301, 302, 9 * GREAT)]
NO_SHEET_LENGTHS = NO_WORD_LENGTHS + [(thing, NoLength, "length", thing) for thing in (0, 1)]

# Things that are no tuples of a place or beat below 9 and a note.
NO_PAIRS = (None, True, 0, "01", [], [0, 1], {}, (), (0,), (0, 1, 0), (9, 0), (10, 0), (9 * GREAT, 0), (-1, 0), (0, 2),
            (0, -1), (True, 0), (0, True), (False, 1), ("0", 0), (0, "0"), (None, 0), (0, None), ([], 0), (0, []),
            ({}, {}), ((0,), (1,)), b"01", object())


def no_pairs(refusal):
    """What are no known notes of words of nine notes, or no heard ones of tunes of nine beats."""
    told = [(thing, refusal, "at", -1) for thing in NO_LISTS]
    for thing in NO_PAIRS:
        told += [([thing], refusal, "at", 0), ((thing,), refusal, "at", 0),
                 ([(8, 0), (0, 1), thing, None], refusal, "at", 2), (((1, 1), thing, (1, 1)), refusal, "at", 1)]
    return told + [([(3, 0), (3, 0)], refusal, "at", 1), ([(3, 0), (2, 0), (4, 1), (3, 1), None], refusal, "at", 3),
                   (((0, 0), (0, 0)), refusal, "at", 1), ([(0, 0)] * 41, refusal, "at", 1)]


NO_HEARD = no_pairs(BadHeard)
NO_KNOWN = no_pairs(BadKnown)
NO_PRICES = [(thing, BadPrices, "at", at) for thing, at in (
    *[(thing, -1) for thing in NO_LISTS + ((), (1, 2))], ([], -1), ([1], -1), ([1, 2, 3], -1), ([None] * 3, -1),
    *[([thing, 0], 0) for thing in (-1, 10 ** 9 + 1, GREAT, True, False, None, "1", [], (), {}, b"", object())],
    *[([10 ** 9, thing], 1) for thing in (-1, 10 ** 9 + 1, GREAT, True, False, None, "1", [1])], ([-1, None], 0))]
NO_SONGS = [(thing, BadTune, "at", at) for thing, at in (
    *[(thing, -1) for thing in NO_LISTS + ((), (0, 1))], ([], -1), ([0] * 9, -1), ([None] * 9, -1), ([0] * 300, -1),
    *[([thing], 0) for thing in NO_NOTES], *[([0, 1, thing, None], 2) for thing in NO_NOTES],
    ([0] * 7 + [2], 7), ([0] * 7 + [True], 7))]
NO_TUNES = [(thing, BadTune, "at", at) for thing, at in (
    *[(thing, -1) for thing in NO_LISTS + ((), (0, 1))], ([0] * 61, -1), ([None] * 61, -1), ([0] * 300, -1),
    *[([thing], 0) for thing in NO_NOTES], *[([0, 1, thing, None], 2) for thing in NO_NOTES], ([0] * 59 + [2], 59))]
NO_ROUNDS = [(thing, BadTune, "at", at) for thing, at in (
    *[(thing, -1) for thing in NO_LISTS + ((), ([0, 1],))], ([], -1), ([[0, 1]] * 13, -1), ([None] * 13, -1),
    ([0, 1], 0), ([[]], 0), ([[], []], 0), ([[0] * 9], 0), ([None], 0), ([(0, 1)], 0), (["01"], 0), ([[0, 2]], 0),
    ([[0, True]], 0), ([[0, 1], [0]], 1), ([[0], [0, 1]], 1), ([[0, 1], [1, 0], [0, 1, 0], None], 2),
    ([[0, 1], []], 1), ([[0, 1], None, []], 1), ([[0, 1], (0, 1)], 1), ([[0, 1], [0, -1]], 1),
    ([[0, 1]] * 11 + [[0, None]], 11), ([[0, 1]] * 11 + [[0, 1, 0]], 11))]


def no_numbers(*numbers):
    """What are no numbers of a kind, by NoNumber."""
    return [(thing, NoNumber, "number", thing) for thing in NO_WHOLES + numbers]


# Every function with good arguments in the interface's order, and for each one what refuses it; RANKED where the
# order of refusals is another one.
ASKED = (
    (many_heard, {"n": 9, "heard": [(0, 1)]}, {"n": NO_LENGTHS, "heard": NO_HEARD}),
    (may_have, {"n": 9, "heard": [(0, 1)], "beat": 3}, {"n": NO_LENGTHS, "heard": NO_HEARD, "beat": NO_BEATS}),
    (surely, {"n": 9, "heard": [(0, 1)]}, {"n": NO_LENGTHS, "heard": NO_HEARD}),
    (clash_of, {"n": 9, "heard": [(0, 1)]}, {"n": NO_LENGTHS, "heard": NO_HEARD}),
    (is_clash, {"n": 9, "heard": [(0, 1)], "thing": (0, 4, [(0, 1)])}, {"n": NO_LENGTHS, "heard": NO_HEARD}),
    (least_heard, {"n": 9, "heard": [(0, 1)]}, {"n": NO_LENGTHS, "heard": NO_HEARD}),
    (least_word, {"prices": [1, 2], "length": 9, "known": [(0, 1)]},
     {"prices": NO_PRICES, "length": NO_WORD_LENGTHS, "known": NO_KNOWN}),
    (least_effort, {"prices": [1, 2], "n": 9, "heard": [(0, 1)]},
     {"prices": NO_PRICES, "n": NO_LENGTHS, "heard": NO_HEARD}),
    (least_note, {"prices": [1, 2], "n": 9, "beat": 3, "heard": [(0, 1)]},
     {"prices": NO_PRICES, "n": NO_LENGTHS, "beat": NO_BEATS, "heard": NO_HEARD}),
    (sheet_of, {"prices": [1, 2], "length": 9}, {"prices": NO_PRICES, "length": NO_SHEET_LENGTHS}),
    (shown_by, {"prices": [1, 2], "length": 9, "thing": []}, {"prices": NO_PRICES, "length": NO_SHEET_LENGTHS}),
    (song_fault, {"song": [0, 1]}, {"song": NO_SONGS}),
    (song_lasts, {"song": [0, 1]}, {"song": NO_SONGS}),
    (clashes, {"song": [0, 1], "n": 9}, {"song": NO_SONGS, "n": NO_LENGTHS}),
    (together, {"many": 8}, {"many": no_numbers(0, 9, 10, 9 * GREAT)}),
    (songs, {"many": 5}, {"many": no_numbers(0, 6, 8, 9 * GREAT)}),
    (least_changes, {"song": [0, 1], "n": 9}, {"song": NO_SONGS, "n": NO_LENGTHS}),
    (rests_of, {"song": [0, 1]}, {"song": NO_SONGS}),
    (least_canon, {"song": [0, 1]}, {"song": NO_SONGS}),
    (rests_shared, {"songs": [[0, 1], [1, 1]]}, {"songs": NO_ROUNDS}),
    (canons_of, {"tune": [0, 1], "pace": 12, "entry": 0},
     {"tune": NO_TUNES, "pace": no_numbers(0, 1, 13, 9 * GREAT), "entry": no_numbers(13, 14, 9 * GREAT)}),
    (furthest, {"tune": [0, 1], "pace": 2, "entry": 12},
     {"tune": NO_TUNES, "pace": no_numbers(0, 1, 13, 9 * GREAT), "entry": no_numbers(13, 14, 9 * GREAT)}),
)
RANKED = {least_note: ("prices", "n", "heard", "beat")}
BY_NAME = ("known", "heard")
NAMED_ALONE = (least_word, least_effort, least_note)
WITHOUT_CANON = (least_word, sheet_of, shown_by, rests_of, least_canon, rests_shared, canons_of, furthest)
OF_TWO_VOICES = (rests_of, least_canon, rests_shared, canons_of, furthest)


def asked(ask, told, table):
    """Ask by names."""
    told = {"table": table, **told}
    return ask(**told) if ask in WITHOUT_CANON else ask(canon=CANON, **told)


def asked_by_places(ask, told, table):
    """Ask by places, but for what stands by its name alone."""
    named = {name: told[name] for name in told if ask in NAMED_ALONE and name in BY_NAME}
    placed = [told[name] for name in told if name not in named]
    return ask(table, *placed, **named) if ask in WITHOUT_CANON else ask(CANON, table, *placed, **named)


class Refused(unittest.TestCase):
    def refused(self, ask, told, refusal, field, worth, table=TABLE):
        with self.assertRaises(refusal) as caught:
            asked(ask, told, table)
        self.assertIs(caught.exception.__class__, refusal)
        if field == "at":
            self.assertEqual(caught.exception.at, worth, (ask.__name__, told))
        else:
            self.assertIs(getattr(caught.exception, field), worth, (ask.__name__, told))

    def test_good_arguments_are_taken(self):
        for ask, good, amiss in ASKED:
            for table in (TABLE, NONE):
                self.assertEqual(asked(ask, good, table), asked_by_places(ask, good, table))

    def test_what_stands_by_its_name_alone(self):
        for ask in (least_word, least_effort, least_note):
            good = next(told for other, told, amiss in ASKED if other == ask)
            with self.assertRaises(TypeError):
                ask(TABLE, *good.values()) if ask in WITHOUT_CANON else ask(CANON, TABLE, *good.values())

    def test_one_thing_amiss(self):
        for ask, good, amiss in ASKED:
            for name in amiss:
                for thing, refusal, field, worth in amiss[name]:
                    for table in (TABLE, NONE):
                        self.refused(ask, {**good, name: thing}, refusal, field, worth, table)

    def test_two_things_amiss(self):
        for ask, good, amiss in ASKED:
            for one, other in itertools.combinations(RANKED.get(ask, tuple(amiss)), 2):
                for thing, refusal, field, worth in amiss[one]:
                    for later, *told in amiss[other][::9]:
                        self.refused(ask, {**good, one: thing, other: later}, refusal, field, worth)

    def test_forty_heard_notes_and_more(self):
        heard = [(beat, beat % 2) for beat in range(40)]
        for ask in (many_heard, may_have, surely, clash_of, is_clash, least_heard, least_effort, least_note):
            good = next(told for other, told, amiss in ASKED if other == ask)
            table = full_table(2, 2)
            asked(ask, {**good, "n": 99, "heard": heard}, table)
            asked(ask, {**good, "n": 99, "heard": tuple(heard[::-1])}, table)
            for more in ((40, 0), (0, 0), None, (99, 0)):
                self.refused(ask, {**good, "n": 99, "heard": heard + [more]}, BadHeard, "at", 40, table)
                self.refused(ask, {**good, "n": 99, "heard": tuple(heard + [more] * 9)}, BadHeard, "at", 40, table)
            self.refused(ask, {**good, "n": 99, "heard": heard[:7] + [None] + heard[7:]}, BadHeard, "at", 7, table)
            self.refused(ask, {**good, "n": 99, "heard": heard[:39] + [(3, 1), (50, 0)]}, BadHeard, "at", 39, table)

    def test_beats_are_below_n(self):
        for n in (0, 1, 9, 9 * GREAT):
            for ask in (may_have, least_note):
                good = next(told for other, told, amiss in ASKED if other == ask)
                for table in (TABLE, NONE):
                    self.refused(ask, {**good, "n": n, "heard": [], "beat": n}, NoBeat, "beat", n, table)
        for n in (0, 3, 9 * GREAT):
            self.refused(many_heard, {"n": n, "heard": [(n, 0)]}, BadHeard, "at", 0)

    def test_sheets_have_lengths_from_the_voices_on(self):
        for voices in (2, 3, 4):
            table = full_table(2, voices)
            for ask, told in ((sheet_of, {}), (shown_by, {"thing": None})):
                asked(ask, {"prices": [0, 0], "length": voices, **told}, table)
                asked(ask, {"prices": [0, 0], "length": 300, **told}, table)
                for length in (*range(voices), 301):
                    self.refused(ask, {"prices": [0, 0], "length": length, **told}, NoLength, "length", length, table)
            for length in range(voices):
                self.assertEqual(least_word(table, [2, 1], length), (length, [1] * length))

    def test_prices_of_the_edges(self):
        self.assertEqual(least_word(TABLE, [10 ** 9, 0], 3), (10 ** 9, [1, 0, 1]))
        for notes in (1, 2, 3, 4):
            for ask, told in ((least_word, {"length": 3}), (least_effort, {"n": 3}), (sheet_of, {"length": 3})):
                table = full_table(notes, 2)
                asked(ask, {"prices": [10 ** 9] * notes, **told}, table)
                for many in {0, 1, 2, 3, 4, 5} - {notes}:
                    self.refused(ask, {"prices": [0] * many, **told}, BadPrices, "at", -1, table)

    def test_numbers_of_the_edges(self):
        for many in range(1, 9):
            together(CANON, TABLE, many)
        for many in range(1, 6):
            songs(CANON, TABLE, many)
        for pace, entry in itertools.product((2, 3, 11, 12), (0, 1, 11, 12)):
            canons_of(TABLE, [0] * 60, pace, entry)
            furthest(TABLE, [], pace, entry)
        for song in ([0], [1] * 8):
            rests_of(TABLE, song)
            rests_shared(TABLE, [song] * 12)
            song_fault(CANON, TABLE, song)


class UnlikeTables(unittest.TestCase):
    def test_tables_of_more_voices(self):
        for ask in OF_TWO_VOICES:
            good, amiss = next((told, wrong) for other, told, wrong in ASKED if other == ask)
            for table in (full_table(2, 3), full_table(2, 4), Table(1, 3, []), Table(4, 4, [])):
                for told in ([good] + [{**good, name: thing} for name in amiss
                                       for thing, refusal, field, worth in amiss[name][::7]]):
                    # It is told ahead of whatever else is amiss.
                    with self.assertRaises(Unlike) as caught:
                        asked(ask, told, table)
                    self.assertEqual(caught.exception.part, "voices")

    def test_what_is_no_table(self):
        for ask in OF_TWO_VOICES:
            good = next(told for other, told, amiss in ASKED if other == ask)
            for thing in (None, True, 2, "", [], {}, (2, 2, []), CANON):
                with self.assertRaises(Unlike) as caught:
                    asked(ask, good, thing)
                self.assertEqual(caught.exception.part, "voices")


if __name__ == "__main__":
    unittest.main()
