"""Points 55 to 59: by which canons rounds and tunes fit, against trying each canon."""

import functools
import itertools
import random
import unittest

from leadbeats.canons import Canon
from leadbeats.songs import song_fault
from leadbeats.tables import Table
from leadbeats.tunes import fault
from leadbeats.which import canons_of, furthest, least_canon, rests_of, rests_shared
from tests.trials import all_lists, drawn, every, fits, full_table, rising_table
from tests.walks import GREAT, within


def tables():
    """Tables of two voices."""
    return every(1, 2) + every(2, 2)[::2] + drawn("which", 3, 2, 5) + drawn("which", 4, 2, 4) + [rising_table(3, 2)]


def fits_for_ever(table, song, numbers):
    """Whether a round fits a canon, moment by moment; after its length all comes again."""
    a, b, c, d = numbers
    p = len(song)
    return all((song[(a * t + b) % p], song[(c * t + d) % p]) in table.allowed() for t in range(2 * p))


def rounds():
    """Tables with some rounds of one to eight notes, the same ones each time."""
    for number, table in enumerate(tables()):
        for long in range(1, 9):
            chance = random.Random(f"round {number} {long}")
            for again in range(1 if long > 5 else 2):
                yield table, [chance.randrange(table.notes()) for place in range(long)]


def all_canons(pace, entry):
    """The four numbers of all canons within bounds, sorted."""
    return [(a, b, c, d) for a, b, c, d in itertools.product(range(1, pace + 1), range(entry + 1), range(1, pace + 1),
                                                             range(entry + 1)) if a < c]


class Rests(unittest.TestCase):
    def test_against_moment_by_moment(self):
        seen = set()
        for table, song in rounds():
            p = len(song)
            wanted = [rests for rests in itertools.product(range(p), repeat=4) if fits_for_ever(table, song, rests)]
            self.assertEqual(rests_of(table, song), wanted, (table.allowed(), song))
            seen.add((wanted == [], len(wanted) == p ** 4))
        self.assertEqual(len(seen), 3)

    def test_canons_however_great(self):
        chance = random.Random(7)
        seen = set()
        for table, song in rounds():
            rests = rests_of(table, song)
            p = len(song)
            for again in range(3):
                numbers = [chance.randrange(1, 9 * GREAT), chance.randrange(9 * GREAT), 0, chance.randrange(9 * GREAT)]
                numbers[2] = numbers[0] + chance.randrange(1, GREAT)
                if rests and again:
                    # One that leaves such rests.
                    wanted = chance.choice(rests)
                    numbers = [number - (number - rest) % p + 3 * p for number, rest in zip(numbers, wanted)]
                    numbers[2] += p * GREAT
                left = tuple(number % p for number in numbers)
                told = song_fault(Canon(*numbers), table, song) is None
                self.assertEqual(told, left in rests, (table.allowed(), song, numbers))
                seen.add(told)
        self.assertEqual(seen, {True, False})

    def test_written_down(self):
        table = Table(2, 2, [(0, 1), (1, 0)])
        # Paces of like rests, entries of unlike ones.
        self.assertEqual(rests_of(table, [0, 1]), [(0, 0, 0, 1), (0, 1, 0, 0), (1, 0, 1, 1), (1, 1, 1, 0)])
        self.assertEqual(rests_of(song=[0], table=table), [])
        self.assertEqual(rests_of(Table(2, 2, [(0, 0)]), [0]), [(0, 0, 0, 0)])
        with within(5):
            self.assertEqual(len(rests_of(full_table(4, 2), [0, 1, 2, 3, 0, 1, 2, 3])), 4096)


class LeastCanons(unittest.TestCase):
    def test_against_going_through_canons(self):
        seen = set()
        for table, song in rounds():
            p = len(song)
            told = least_canon(table, song)
            # The least has paces of which no rest comes twice ahead of it, and entries below the round's length.
            canons = ((a, b, c, d) for a in range(1, p + 1) for b in range(p) for c in range(a + 1, a + p + 1)
                      for d in range(p))
            wanted = next((numbers for numbers in canons if fits_for_ever(table, song, numbers)), None)
            self.assertEqual(told, wanted, (table.allowed(), song))
            seen.add(None if told is None else told[0] < 3)
            if told is not None:
                self.assertIsNone(song_fault(Canon(*told), table, song))
        self.assertEqual(seen, {None, True, False})

    def test_no_lesser_one_by_far(self):
        for table, song in itertools.islice(rounds(), 0, None, 5):
            told = least_canon(table, song)
            if len(song) < 5:
                canons = sorted(numbers for numbers in all_canons(9, 6) if fits_for_ever(table, song, numbers))
                self.assertEqual(canons[0] if canons else None, told)

    def test_written_down(self):
        self.assertEqual(least_canon(Table(2, 2, [(0, 1), (1, 0)]), [0, 1]), (1, 0, 3, 1))
        self.assertEqual(least_canon(Table(2, 2, [(0, 0)]), [0]), (1, 0, 2, 0))
        self.assertEqual(least_canon(Table(2, 2, [(0, 0)]), [1, 0]), (2, 1, 4, 1))
        self.assertIsNone(least_canon(song=[1, 1], table=Table(2, 2, [(0, 0)])))


class Shared(unittest.TestCase):
    def test_against_each_round(self):
        seen = set()
        for number, table in enumerate(tables()):
            for many in (1, 2, 3, 12):
                for long in (1, 2, 3, 4, 8):
                    chance = random.Random(f"shared {number} {many} {long}")
                    songs = [[chance.randrange(table.notes()) for place in range(long)] for song in range(many)]
                    told = rests_shared(table, songs)
                    each = [set(rests_of(table, song)) for song in songs]
                    self.assertEqual(told, sorted(set.intersection(*each)))
                    self.assertEqual(rests_shared(table, songs[::-1]), told)
                    seen.add((many, told == []))
        self.assertEqual(len(seen), 8)

    def test_written_down(self):
        table = Table(2, 2, [(0, 1), (1, 0)])
        self.assertEqual(rests_shared(songs=[[0, 1], [1, 0]], table=table), rests_of(table, [0, 1]))
        self.assertEqual(rests_shared(table, [[0, 1], [1, 1]]), [])
        song = [0, 1]
        self.assertEqual(rests_shared(table, [song] * 12), rests_of(table, song))


@functools.cache
def told_tunes():
    """Tables with tunes of none to sixty notes."""
    told = []
    for number, table in enumerate(tables()):
        for long in (0, 1, 2, 3, 7, 13, 30, 59, 60):
            chance = random.Random(f"tune {number} {long}")
            notes = [chance.randrange(table.notes()) for place in range(2)]
            told.append((table, [chance.choice(notes) for beat in range(long)]))
            # One that goes round fits more often.
            told.append((table, [notes[beat % 2] for beat in range(long)]))
    return told


class Canons(unittest.TestCase):
    def test_against_each_canon(self):
        seen = set()
        for table, tune in told_tunes():
            for pace, entry in ((2, 0), (2, 3), (4, 1), (5, 2)):
                canons = all_canons(pace, entry)
                wanted = [numbers for numbers in canons if fits(numbers, table, tune)]
                self.assertEqual(canons_of(table, tune, pace, entry), wanted, (table.allowed(), tune, pace, entry))
                seen.add((wanted == [], wanted == canons))
        self.assertEqual(len(seen), 3)

    def test_furthest(self):
        seen = set()
        for table, tune in told_tunes():
            for pace, entry in ((2, 0), (3, 2)):
                n = len(tune)
                while not any(fits(numbers, table, tune[:n]) for numbers in all_canons(pace, entry)):
                    n -= 1
                least = next(numbers for numbers in all_canons(pace, entry) if fits(numbers, table, tune[:n]))
                self.assertEqual(furthest(table, tune, pace, entry), (n, least), (table.allowed(), tune, pace, entry))
                seen.add((n == 0, n == len(tune)))
        self.assertEqual(len(seen), 4)

    def test_the_greatest_bounds(self):
        with within(60):
            canons = all_canons(12, 12)
            for table, tune in told_tunes()[::40]:
                wanted = [numbers for numbers in canons if fault(Canon(*numbers), table, tune) is None]
                self.assertEqual(canons_of(table, tune, 12, 12), wanted)
                n, numbers = furthest(table, tune, 12, 12)
                if wanted:
                    self.assertEqual((n, numbers), (len(tune), wanted[0]))
                self.assertIsNone(fault(Canon(*numbers), table, tune[:n]))
            self.assertEqual(canons_of(full_table(1, 2), [0] * 60, 12, 12), canons)
            self.assertEqual(canons_of(full_table(1, 2), [0] * 60, 2, 0), [(1, 0, 2, 0)])
            self.assertEqual(canons_of(full_table(1, 2), [0] * 60, 12, 0)[-1], (11, 0, 12, 0))
            self.assertEqual(canons_of(full_table(1, 2), [0] * 60, 2, 12)[-1], (1, 12, 2, 12))

    def test_an_entry_beyond_the_end(self):
        for n in range(5):
            for tune in all_lists(2, n)[:6]:
                told = canons_of(Table(2, 2, []), tune, 3, 5)
                self.assertEqual(told, [(a, b, c, d) for a, b, c, d in all_canons(3, 5) if max(b, d) >= n])

    def test_written_down(self):
        table = Table(2, 2, [(0, 1), (1, 0)])
        # Beat 0 sounds with beat 1 by (1, 0, 2, 1), with itself by (1, 0, 2, 0), and at last beat 1 with beat 0.
        self.assertEqual(canons_of(table, [0, 1], 2, 1), [(1, 0, 2, 1), (1, 1, 2, 0)])
        self.assertEqual(canons_of(entry=1, pace=2, tune=[0, 0], table=table), [])
        self.assertEqual(furthest(table, [0, 0], 2, 1), (1, (1, 0, 2, 1)))
        self.assertEqual(furthest(entry=0, pace=2, tune=[0, 0], table=table), (0, (1, 0, 2, 0)))
        self.assertEqual(furthest(table, [], 2, 0), (0, (1, 0, 2, 0)))
        self.assertEqual(furthest(table, [0, 1, 1, 1, 0], 2, 1), (3, (1, 0, 2, 1)))
        self.assertEqual(furthest(table, [0, 1, 1, 0, 0], 2, 1), (5, (1, 0, 2, 1)))
        self.assertEqual(canons_of(table, [], 2, 1), all_canons(2, 1))

    def test_a_round_against_its_tune(self):
        seen = set()
        for table, song in rounds():
            p = len(song)
            for numbers in ((1, 0, 2, 0), (1, 2, 2, 0), (1, 0, 3, 1), (2, 1, 3, 4), (2, 0, 4, 2), (3, 7, 7, 0)):
                a, b, c, d = numbers
                tune = [song[beat % p] for beat in range(max(b, d) + c * p)]
                told = tuple(number % p for number in numbers) in rests_of(table, song)
                self.assertEqual(told, fault(Canon(*numbers), table, tune) is None)
                if len(tune) <= 60:
                    self.assertEqual(told, numbers in canons_of(table, tune, c, max(b, d)))
                seen.add(told)
        self.assertEqual(seen, {True, False})


if __name__ == "__main__":
    unittest.main()
