"""Points 3 and 49 to 54 for canons and lengths of thirty figures, all of them told at once."""

import random
import unittest

from leadbeats.canons import Canon
from leadbeats.counts import bar, longest_tune
from leadbeats.songs import clashes, least_changes, song_fault, song_lasts, songs, together
from leadbeats.tables import Table
from tests.trials import all_lists, drawn, ending, full_table, loop_notes, rising_table
from tests.walks import GREAT, great_numbers, great_row, within

N = 9 * GREAT + 12345


def great_tables():
    """Tables up to the greatest, by which songs fit for ever, or for long, or hardly."""
    return [full_table(4, 4), Table(2, 2, [(0, 0), (0, 1), (1, 0)]), Table(2, 2, [(0, 1), (1, 0), (1, 1)]),
            Table(3, 3, [(0, 0, 0), (0, 1, 2), (1, 2, 0), (2, 0, 1), (1, 1, 1), (2, 2, 2)]), *drawn("great", 3, 2, 3),
            drawn("heard", 4, 4, 3)[1], ending("great", 4, 4), Table(2, 4, [(0, 0, 0, 0)]), rising_table(4, 2)]


def cases():
    """Canons, tables and songs of one to eight notes, the same ones each time."""
    for number, numbers in enumerate(great_numbers() + [(2, 3, 3, 0), (4, 2, 6, 0), (1, 2, 2, 1)]):
        for at, table in enumerate(great_tables()):
            chance = random.Random(f"great {number} {at}")
            song = [chance.randrange(table.notes()) for place in range((number + at) % 8 + 1)]
            yield numbers, Canon(*numbers), table, song
            # Songs of hardly unlike notes clash late.
            yield numbers, Canon(*numbers), table, [0] * 7 + [chance.randrange(table.notes())]


def chain_from(numbers, beat, voices):
    """The beats of so many voices from the first one's on, None where they are fewer."""
    a, b, c, d = numbers
    beats = [beat]
    while len(beats) < voices:
        if beats[-1] < b or (beats[-1] - b) % a:
            return None
        beats.append((beats[-1] - b) // a * c + d)
    return tuple(beats)


def chain_to(numbers, beat, voices):
    """The beats of so many voices up to the last one's, None where they are fewer."""
    a, b, c, d = numbers
    beats = [beat]
    while len(beats) < voices:
        if beats[0] < d or (beats[0] - d) % c:
            return None
        beats.insert(0, (beats[0] - d) // c * a + b)
    return tuple(beats)


def sung(song, beats):
    """The notes of a song at some beats."""
    return tuple(song[beat % len(song)] for beat in beats)


def clashes_at(numbers, table, song, beat):
    """How many moments of which a beat is the greatest have notes that may not sound: one at most."""
    told = {beats for beats in (chain_from(numbers, beat, table.voices()), chain_to(numbers, beat, table.voices()))
            if beats is not None and max(beats) == beat}
    return len([beats for beats in told if sung(song, beats) not in table.allowed()])


def changes(table, notes):
    """The fewest changes that lead notes to a word, grown from the first note on; None where there is no word."""
    allowed, voices = set(table.allowed()), table.voices()
    ends = {(): 0}
    for note in notes:
        later = {}
        for end, cost in ends.items():
            for other in range(table.notes()):
                told = end + (other,)
                if len(told) < voices or told in allowed:
                    told = told[-(voices - 1):]
                    later[told] = min(cost + (other != note), later.get(told, cost + 1))
        ends = later
    return min(ends.values(), default=None)


def some_lengths(numbers, canon):
    """Lengths at whose last beat something may come: far ones, those of a voice, and the loop's."""
    a, b, c, d = numbers
    told = [0, 1, N, N - N % c + d, b + a * 5, d + c * 7, b + a * (N // a // 2), d + c * (N // c // 2)]
    if a < 10 ** 6:
        # Beats that are led to from afar.
        chain = [b + a ** 5 * (N // a ** 5 // c ** 4)]
        while chain[-1] is not None and len(chain) < 7:
            chain.append(canon.led(chain[-1]))
        told += [beat for beat in chain if beat is not None]
    if canon.loop() is not None:
        told.append(canon.loop())
    return [n for n in dict.fromkeys(told) if n < 10 * N]


class GreatSongs(unittest.TestCase):
    def test_faults(self):
        seen = set()
        with within(30):
            for numbers, canon, table, song in cases():
                told = song_fault(canon, table, song)
                lasts = song_lasts(canon, table, song)
                if told is None:
                    self.assertIsNone(lasts)
                    self.assertEqual(clashes(canon, table, song, N), 0)
                    seen.add(None)
                    continue
                moment, beats = told
                self.assertEqual(beats[0], numbers[0] * moment + numbers[1])
                self.assertEqual(beats, chain_from(numbers, beats[0], table.voices()))
                self.assertNotIn(sung(song, beats), table.allowed())
                self.assertEqual(lasts, max(beats))
                # It is the first one: ahead of it there is none.
                self.assertEqual((clashes(canon, table, song, lasts), clashes(canon, table, song, lasts + 1)), (0, 1))
                seen.add((lasts > GREAT, beats[0] > beats[-1]))
        self.assertEqual(len(seen), 5)

    def test_clashes_of_one_beat_more(self):
        seen = set()
        with within(30):
            for numbers, canon, table, song in cases():
                for n in some_lengths(numbers, canon):
                    more = clashes(canon, table, song, n + 1) - clashes(canon, table, song, n)
                    self.assertEqual(more, clashes_at(numbers, table, song, n), (numbers, table.allowed(), song, n))
                    seen.add((more, canon.loop() == n, table.voices()))
        # All but a clash at the loop of the table of three voices, by which each note sounds with itself.
        self.assertEqual(len(seen), 11)

    def test_together_and_songs(self):
        with within(30):
            for numbers in great_numbers():
                canon = Canon(*numbers)
                for table in great_tables():
                    told = songs(canon, table, 3)
                    fitting = [song for song in all_lists(table.notes(), 3) if song_fault(canon, table, song) is None]
                    self.assertEqual(told, fitting)
                    for many in (1, 5, 8):
                        rests = together(canon, table, many)
                        self.assertEqual(rests, sorted(set(rests)))
                        wanted = {tuple(beat % many for beat in beats) for beats in self.some(numbers, table.voices())}
                        self.assertTrue(wanted <= set(rests), (numbers, many))
                        self.assertLessEqual(len(rests), 2 * many + 1)

    def some(self, numbers, voices):
        """Some moments at which so many voices sing."""
        a, b, c, d = numbers
        power = a ** (voices - 1)
        told = [chain_from(numbers, b + a * at + power * step, voices) for at in range(3) for step in range(3)]
        told.append(chain_from(numbers, Canon(*numbers).loop() or 0, voices))
        return [beats for beats in told if beats is not None]

    def test_changes_of_one_beat_more(self):
        seen = set()
        with within(60):
            for at, (numbers, canon, table, song) in enumerate(cases()):
                for n in some_lengths(numbers, canon)[at % 7::7]:
                    told, more = least_changes(canon, table, song, n), least_changes(canon, table, song, n + 1)
                    self.assertEqual((told is None, more is None),
                                     (bar(canon, table, n) is not None, bar(canon, table, n + 1) is not None))
                    if more is None:
                        seen.add(None)
                        continue
                    if canon.loop() == n:
                        self.assertEqual(more - told, song[n % len(song)] not in loop_notes(table))
                        seen.add("loop")
                        continue
                    beats = great_row(numbers, n + 1, n)
                    left = [beat for beat in beats if beat < n]
                    grown = changes(table, sung(song, beats)) - changes(table, sung(song, left))
                    self.assertEqual(more - told, grown, (numbers, table.allowed(), song, n))
                    seen.add((beats[0] > beats[-1], min(len(beats), 2), min(grown, 1)))
        self.assertEqual(len(seen), 7)

    def test_written_down(self):
        with within(5):
            # Rows begin with odd beats, and all beats behind these are even.
            canon, table = Canon(1, 0, 2, 0), Table(2, 2, [(0, 0), (1, 1)])
            self.assertEqual(least_changes(canon, table, [0], N), 0)
            self.assertEqual(song_fault(canon, table, [0, 1]), (1, (1, 2)))
            # Of the rows of two beats and more the first one is changed: they begin with odd beats below N / 2.
            self.assertEqual(least_changes(canon, table, [0, 1], N), (N // 2 + 1) // 2)
            self.assertEqual(clashes(canon, table, [0, 1], N), (N // 2 + 1) // 2)
            falling = Canon(1, 2 ** 97, 2, 0)
            # Beat 2 ** 97 + t is led to beat 2 t, which is even: at moment 7 the one sings note 1, the other one 0.
            self.assertEqual(song_fault(falling, table, [0] * 7 + [1]), (7, (2 ** 97 + 7, 14)))
            self.assertIsNone(song_fault(falling, table, [1]))

    def test_what_was_told_may_be_handed_in_again(self):
        with within(20):
            table = ending("great", 4, 4)
            canon = Canon(GREAT + 7, 3, 9 * GREAT + 1, 8)
            n = longest_tune(canon, table)[0]
            self.assertIsNotNone(least_changes(canon, table, [0, 1, 2, 3, 3], n))
            self.assertIsNone(least_changes(canon, table, [0, 1, 2, 3, 3], n + 1))
            self.assertGreater(clashes(canon, table, [0, 1, 2, 3, 3], n + 1), 0)


if __name__ == "__main__":
    unittest.main()
