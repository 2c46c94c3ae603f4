"""Points 49 to 54: songs that go round, against going through the moments."""

import functools
import itertools
import random
import unittest

from leadbeats.canons import Canon
from leadbeats.songs import clashes, least_changes, song_fault, song_lasts, songs, together
from leadbeats.tables import Table
from leadbeats.tunes import fault, mended
from tests.trials import all_lists, drawn, ending, fits, full_table, rising_table, small_tables, tuned_numbers
from tests.walks import small_numbers, within

# Rests come again after at most 8 moments at which all voices sing, these 7 ** 2 moments apart at most.
MOMENTS = 700


@functools.cache
def chains(numbers, voices):
    """All moments up to a bound at which so many voices sing: a list of (moment, beats)."""
    a, b, c, d = numbers
    told = []
    for moment in range(MOMENTS):
        beats = [a * moment + b]
        while len(beats) < voices and beats[-1] >= b and (beats[-1] - b) % a == 0:
            beats.append((beats[-1] - b) // a * c + d)
        if len(beats) == voices:
            told.append((moment, tuple(beats)))
    return told


def sung(song, beats):
    """The notes of a song at some beats."""
    return tuple(song[beat % len(song)] for beat in beats)


def clashing(numbers, table, song):
    """All moments up to a bound at which notes may not sound together, with the beats."""
    return [(moment, beats) for moment, beats in chains(numbers, table.voices())
            if sung(song, beats) not in table.allowed()]


def song_numbers():
    """The four numbers of canons, some of them with many falling moments ahead of the loop and of rising ones."""
    return (tuned_numbers() + small_numbers()[::37]
            + [(1, 50, 2, 0), (1, 51, 2, 0), (2, 71, 3, 2), (2, 30, 3, 0), (3, 90, 4, 1), (3, 91, 5, 2), (2, 44, 4, 2),
               (2, 43, 4, 2), (6, 60, 9, 3), (6, 61, 9, 3), (4, 100, 6, 2), (2, 0, 4, 0), (1, 20, 4, 2)])


def song_tables():
    """Tables of two to four voices, some by which songs fit for ever and some by which few do."""
    return (small_tables()[::9] + drawn("songs", 2, 2, 5) + drawn("songs", 3, 2, 5) + drawn("songs", 2, 3, 4)
            + [full_table(2, 2), Table(2, 2, [(0, 1), (1, 0)]), Table(3, 3, [(0, 0, 0), (0, 1, 2), (1, 2, 0), (2, 0, 1)]),
               Table(2, 4, [(0, 0, 0, 0), (0, 1, 0, 1), (1, 0, 1, 0), (1, 1, 1, 1)]), rising_table(3, 2)])


def cases():
    """Canons and tables with some songs of one to eight notes, the same ones each time."""
    for number, (numbers, table) in enumerate(itertools.product(song_numbers(), song_tables())):
        chance = random.Random(f"song {number}")
        for again in range(2):
            long = chance.randint(1, 8)
            # Songs of few unlike notes fit more often.
            notes = [chance.randrange(table.notes()) for place in range(chance.randint(1, 2))]
            song = [chance.choice(notes) for place in range(long)] if again else (
                [chance.randrange(table.notes()) for place in range(long)])
            yield numbers, Canon(*numbers), table, song


class Faults(unittest.TestCase):
    def test_against_the_moments(self):
        seen = set()
        for numbers, canon, table, song in cases():
            wanted = clashing(numbers, table, song)
            told = song_fault(canon, table, song)
            self.assertEqual(told, wanted[0] if wanted else None, (numbers, table.allowed(), song))
            lasts = song_lasts(canon, table, song)
            self.assertEqual(lasts, max(wanted[0][1]) if wanted else None)
            seen.add((len(song), told is None, told is not None and told[1][0] > told[1][-1]))
        self.assertEqual(len(seen), 24)

    def test_at_the_loop_first(self):
        # Beats 0 to 2 have note 0 and beat 3 note 1: at each moment ahead of the loop's the notes may sound.
        canon, table = Canon(1, 3, 2, 0), Table(2, 2, [(0, 0), (1, 0), (0, 1)])
        self.assertEqual(song_fault(canon, table, [0, 0, 0, 0, 0, 0, 1]), (3, (6, 6)))
        self.assertEqual(song_lasts(canon, table, [0, 0, 0, 0, 0, 0, 1]), 6)
        self.assertEqual(song_fault(Canon(1, 0, 2, 0), Table(1, 4, []), [0]), (0, (0, 0, 0, 0)))
        self.assertEqual(song_lasts(Canon(1, 0, 2, 0), Table(1, 4, []), [0]), 0)

    def test_lasts_is_the_greatest_that_fits(self):
        for numbers, canon, table, song in itertools.islice(cases(), 0, None, 3):
            lasts = song_lasts(canon, table, song)
            tune = [song[beat % len(song)] for beat in range(299 if lasts is None else min(lasts + 1, 299))]
            self.assertEqual(fits(numbers, table, tune), lasts is None or lasts >= 299)
            self.assertTrue(fits(numbers, table, tune[:-1]))
            if lasts is None or lasts < 299:
                self.assertEqual(fault(canon, table, tune), song_fault(canon, table, song))

    def test_written_down(self):
        canon, table = Canon(1, 0, 2, 1), Table(2, 2, [(0, 1), (1, 0)])
        # Beat 0 is led to 1, 1 to 3, 2 to 5, 3 to 7.
        self.assertEqual(song_fault(canon, table, [0, 1]), (1, (1, 3)))
        self.assertEqual(song_lasts(song=[0, 1], table=table, canon=canon), 3)
        self.assertIsNone(song_fault(song=[0], table=Table(2, 2, [(0, 0)]), canon=canon))
        self.assertIsNone(song_lasts(canon, Table(2, 2, [(0, 0)]), [0]))
        # Unlike rests: two voices sing always, three never.
        self.assertIsNone(song_fault(Canon(2, 3, 4, 0), Table(2, 3, []), [0, 1, 1]))
        self.assertEqual(song_fault(Canon(2, 3, 4, 0), Table(2, 2, []), [0, 1, 1]), (0, (3, 0)))
        self.assertIsNone(song_fault(Canon(2, 3, 4, 0), Table(2, 2, [(1, 0)]), [0, 1]))


class Clashes(unittest.TestCase):
    def test_against_the_moments(self):
        seen = set()
        for number, (numbers, canon, table, song) in enumerate(cases()):
            wanted = [max(beats) for moment, beats in clashing(numbers, table, song)]
            a, b, c, d = numbers
            # All moments with beats below it are gone through.
            end = min(a * MOMENTS + b, c * MOMENTS + d)
            for n in (0, 1, 2, 7, 30 + number % 40, end // 3, end):
                told = clashes(canon, table, song, n)
                self.assertEqual(told, sum(beat < n for beat in wanted), (numbers, table.allowed(), song, n))
                seen.add(min(told, 3))
        self.assertEqual(seen, {0, 1, 2, 3})

    def test_written_down(self):
        # At moment t beats t and 2 t + 1 sound, the one below n ahead of the other one.
        canon, none = Canon(1, 0, 2, 1), Table(2, 2, [])
        self.assertEqual([clashes(canon, none, [0, 1], n) for n in range(6)], [0, 0, 1, 1, 2, 2])
        self.assertEqual(clashes(n=10 ** 29, song=[0, 1], table=none, canon=canon), 10 ** 29 // 2)
        self.assertEqual(clashes(canon, full_table(2, 2), [0, 1], 10 ** 29), 0)
        self.assertEqual(clashes(Canon(1, 0, 2, 0), Table(2, 4, []), [0], 1), 1)
        self.assertEqual(clashes(Canon(1, 0, 2, 0), Table(2, 4, []), [0], 0), 0)


class Together(unittest.TestCase):
    def test_against_the_moments(self):
        for numbers in song_numbers():
            canon = Canon(*numbers)
            for voices in (2, 3, 4):
                table = Table(2, voices, [])
                for many in range(1, 9):
                    rests = {tuple(beat % many for beat in beats) for moment, beats in chains(numbers, voices)}
                    self.assertEqual(together(canon, table, many), sorted(rests), (numbers, voices, many))

    def test_songs_fit_just_where_these_may_sound(self):
        for numbers, canon, table, song in itertools.islice(cases(), 0, None, 2):
            rests = together(canon, table, len(song))
            self.assertEqual(song_fault(canon, table, song) is None,
                             all(sung(song, places) in table.allowed() for places in rests))

    def test_written_down(self):
        self.assertEqual(together(Canon(1, 0, 2, 1), Table(2, 2, []), 2), [(0, 1), (1, 1)])
        self.assertEqual(together(many=3, table=Table(2, 3, []), canon=Canon(1, 0, 2, 1)),
                         [(0, 1, 0), (1, 0, 1), (2, 2, 2)])
        self.assertEqual(together(Canon(2, 3, 4, 0), Table(2, 3, []), 8), [])
        self.assertEqual(together(Canon(1, 0, 2, 0), Table(2, 2, []), 1), [(0, 0)])


class Songs(unittest.TestCase):
    def test_against_each_song(self):
        seen = set()
        for number, (numbers, table) in enumerate(itertools.product(song_numbers(), song_tables())):
            many = number % 5 + 1
            if table.notes() ** many > 256 and number % 11:
                continue
            canon = Canon(*numbers)
            wanted = [song for song in all_lists(table.notes(), many) if song_fault(canon, table, song) is None]
            self.assertEqual(songs(canon, table, many), wanted, (numbers, table.allowed(), many))
            seen.add((many, wanted == []))
        self.assertEqual(len(seen), 10)

    def test_written_down(self):
        canon = Canon(1, 0, 2, 1)
        self.assertEqual(songs(canon, Table(2, 2, [(0, 1), (1, 0)]), 2), [])
        self.assertEqual(songs(many=2, table=Table(2, 2, [(0, 1), (1, 1)]), canon=canon), [[0, 1], [1, 1]])
        self.assertEqual(songs(canon, Table(2, 2, [(0, 0), (1, 1)]), 1), [[0], [1]])
        self.assertEqual(len(songs(canon, full_table(4, 4), 5)), 1024)


class Changes(unittest.TestCase):
    def test_against_mended(self):
        seen = set()
        for number, (numbers, canon, table, song) in enumerate(cases()):
            for n in (number % 7, 7 + number % 30, 37 + number % 100):
                wanted = mended(canon, table, [song[beat % len(song)] for beat in range(n)])
                told = least_changes(canon, table, song, n)
                self.assertEqual(told, None if wanted is None else wanted[0], (numbers, table.allowed(), song, n))
                seen.add(told if told is None else min(told, 3))
        self.assertEqual(seen, {None, 0, 1, 2, 3})

    def test_three_hundred_beats(self):
        for numbers, canon, table, song in itertools.islice(cases(), 0, None, 23):
            wanted = mended(canon, table, [song[beat % len(song)] for beat in range(300)])
            self.assertEqual(least_changes(canon, table, song, 300), None if wanted is None else wanted[0])

    def test_against_all_tunes(self):
        for numbers, table in itertools.product(tuned_numbers(), drawn("few", 2, 2, 4) + drawn("few", 2, 3, 3)):
            for song in ([0], [1], [0, 1], [1, 1, 0]):
                for n in (0, 1, 5, 7):
                    tunes = [tune for tune in all_lists(2, n) if fits(numbers, table, tune)]
                    wanted = min((sum(note != song[beat % len(song)] for beat, note in enumerate(tune))
                                  for tune in tunes), default=None)
                    self.assertEqual(least_changes(Canon(*numbers), table, song, n), wanted)

    def test_none_where_no_tune_fits(self):
        self.assertIsNone(least_changes(Canon(1, 0, 2, 1), Table(2, 2, []), [0], 2))
        self.assertEqual(least_changes(Canon(1, 0, 2, 1), Table(2, 2, []), [0], 1), 0)
        self.assertIsNone(least_changes(Canon(1, 0, 2, 0), Table(2, 2, [(0, 1), (1, 0)]), [0], 10 ** 29))
        self.assertIsNone(least_changes(Canon(1, 0, 2, 1), ending("changes", 3, 2), [0], 10 ** 29))

    def test_written_down(self):
        # Rows [0, 1, 3, 7], [2, 5], [4], [6]: where notes take turns, half of those of a row of noughts are changed.
        canon, table = Canon(1, 0, 2, 1), Table(2, 2, [(0, 1), (1, 0)])
        self.assertEqual(least_changes(canon, table, [0], 8), 3)
        self.assertEqual(least_changes(n=8, song=[0, 1], table=table, canon=canon), 1)
        self.assertEqual(least_changes(canon, Table(2, 2, [(1, 1)]), [0], 8), 6)
        loop = Canon(1, 3, 2, 0)
        self.assertEqual(least_changes(loop, Table(2, 2, [(1, 1), (0, 0)]), [0, 0, 0, 0, 0, 0, 1], 7), 0)
        self.assertEqual(least_changes(loop, Table(2, 2, [(0, 0)]), [0, 0, 0, 0, 0, 0, 1], 7), 1)
        self.assertEqual(least_changes(loop, Table(2, 2, [(0, 0)]), [0, 0, 0, 0, 0, 0, 1], 6), 0)

    def test_songs_that_fit_for_ever_are_not_changed(self):
        with within(30):
            for numbers, canon, table, song in itertools.islice(cases(), 0, None, 3):
                lasts = song_lasts(canon, table, song)
                if lasts is None:
                    self.assertEqual(least_changes(canon, table, song, 10 ** 12), 0)
                    self.assertEqual(clashes(canon, table, song, 10 ** 12), 0)
                else:
                    self.assertEqual(least_changes(canon, table, song, lasts), 0)
                    self.assertEqual(clashes(canon, table, song, lasts), 0)
                    self.assertNotEqual(least_changes(canon, table, song, lasts + 1), 0)
                    self.assertEqual(clashes(canon, table, song, lasts + 1), 1)


if __name__ == "__main__":
    unittest.main()
