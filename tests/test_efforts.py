"""Points 45, 46 and 48: least efforts, against all words and all tunes tried."""

import functools
import itertools
import random
import unittest

from leadbeats.canons import Canon
from leadbeats.counts import bar
from leadbeats.efforts import least_effort, least_note, least_word
from leadbeats.tables import Table
from leadbeats.tunes import first_note
from leadbeats.words import first_word
from tests.trials import (all_words, drawn, ending, fitting_tunes, full_table, loop_notes, rising_table, small_tables,
                          tuned_numbers, tuned_tables, walked)
from tests.walks import small_numbers, within

TRIED = 256


def effort(prices, notes):
    """What notes cost."""
    return sum(prices[note] for note in notes)


def some_prices(chance, notes):
    """Prices that are often alike, so that several words cost the same, or great."""
    return [chance.choice((0, 1, 1, 2, 3, 10 ** 9)) for note in range(notes)]


def known_in(chance, table, length):
    """Some known notes, none among them."""
    places = chance.sample(range(length), chance.choice((0, min(1, length), min(2, length))))
    return [(place, chance.randrange(table.notes())) for place in places]


def least(prices, lists):
    """The least effort of some lists, and the first list of it; None of no lists."""
    return min(((effort(prices, notes), notes) for notes in lists), default=None)


class Words(unittest.TestCase):
    def test_against_all_words(self):
        seen = set()
        for number, table in enumerate(small_tables()):
            for length in range(7):
                if table.notes() ** length > 1100:
                    break
                words = all_words(table, length)
                for again in range(4):
                    chance = random.Random(f"words {number} {length} {again}")
                    prices, known = some_prices(chance, table.notes()), known_in(chance, table, length)
                    left = [word for word in words if all(word[place] == note for place, note in known)]
                    told = least_word(table, prices, length, known=known)
                    self.assertEqual(told, least(prices, left), (table.allowed(), prices, length, known))
                    self.assertEqual(told, least_word(table, prices, length, known=tuple(known[::-1])))
                    seen.add((told is None, bool(known), len([word for word in left
                                                              if told and effort(prices, word) == told[0]]) > 1))
        self.assertEqual(len(seen), 6)

    def test_written_down(self):
        table = Table(3, 2, [(0, 1), (1, 0), (2, 2), (1, 2)])
        self.assertEqual(least_word(table, [1, 1, 1], 4), (4, [0, 1, 0, 1]))
        self.assertEqual(least_word(table, [3, 3, 1], 4), (4, [2, 2, 2, 2]))
        self.assertEqual(least_word(table, [3, 3, 1], 4, known=[(1, 1)]), (8, [0, 1, 2, 2]))
        self.assertEqual(least_word(table, [0, 5, 1], 3), (3, [2, 2, 2]))
        self.assertEqual(least_word(table, [0, 1, 1], 3), (1, [0, 1, 0]))
        self.assertEqual(least_word(table, [0, 0, 0], 0), (0, []))
        self.assertEqual(least_word(table, [7, 8, 9], 1), (7, [0]))
        self.assertIsNone(least_word(table, [0, 0, 0], 2, known=[(0, 0), (1, 2)]))
        self.assertIsNone(least_word(rising_table(3, 2), [0, 0, 0], 4))
        self.assertEqual(least_word(known=[(0, 1)], length=2, prices=[5, 6, 7], table=table), (11, [1, 0]))

    def test_three_hundred_notes(self):
        with within(20):
            self.assertEqual(least_word(full_table(4, 4), [9, 10 ** 9, 3, 5], 300), (900, [2] * 300))
            self.assertEqual(least_word(Table(2, 2, [(0, 1), (1, 0)]), [10 ** 9, 10 ** 9], 300),
                             (300 * 10 ** 9, [0, 1] * 150))
            table = Table(3, 3, [(0, 0, 1), (0, 1, 0), (1, 0, 0), (1, 1, 1), (2, 2, 2), (1, 1, 2), (1, 2, 2)])
            self.assertEqual(least_word(table, [1, 5, 4], 300, known=[(0, 0)]), (700, [0, 0, 1] * 100))

    def test_where_all_cost_the_same_it_is_the_first_word(self):
        for table in small_tables():
            for price in (0, 3):
                for length in (0, 1, 5, 12):
                    word = first_word(table, length)
                    told = least_word(table, [price] * table.notes(), length)
                    self.assertEqual(told, None if word is None else (price * length, word))


@functools.cache
def tried():
    """Canons, tables and lengths with all fitting tunes: the numbers, the table, n and the tunes."""
    return [(numbers, table, n, fitting_tunes(numbers, table, n))
            for numbers, table in itertools.product(tuned_numbers(), tuned_tables())
            for n in (0, 1, 2, 4, 5, 8) if table.notes() ** n <= TRIED]


class Tunes(unittest.TestCase):
    def test_against_all_tunes(self):
        seen = set()
        for number, (numbers, table, n, tunes) in enumerate(tried()):
            canon = Canon(*numbers)
            for again in range(3):
                chance = random.Random(f"tunes {number} {again}")
                prices = some_prices(chance, table.notes())
                heard = [] if again == 0 else known_in(chance, table, n)
                left = [tune for tune in tunes if all(tune[beat] == note for beat, note in heard)]
                wanted = least(prices, left)
                told = least_effort(canon, table, prices, n, heard=heard)
                self.assertEqual(told, None if wanted is None else wanted[0], (numbers, table.allowed(), n, heard))
                notes = [least_note(canon, table, prices, n, beat, heard=tuple(heard)) for beat in range(n)]
                self.assertEqual(notes, [None] * n if wanted is None else wanted[1])
                if not heard:
                    self.assertEqual(least_effort(canon, table, prices, n), told)
                    self.assertEqual([least_note(canon, table, prices, n, beat) for beat in range(n)], notes)
                seen.add((wanted is None, bool(heard), walked(numbers, n)[1] is None))
        self.assertEqual(len(seen), 8)

    def test_longer_tunes_row_by_row(self):
        seen = set()
        for number, numbers in enumerate(small_numbers()[::23] + tuned_numbers()):
            canon = Canon(*numbers)
            for table in (drawn("long", 3, 2, 3) + drawn("long", 2, 3, 2) + [full_table(3, 2), ending("long", 4, 2)]):
                for n in (17, 60):
                    chance = random.Random(f"long {number} {n}")
                    prices = some_prices(chance, table.notes())
                    heard = [(beat, chance.randrange(table.notes())) for beat in chance.sample(range(n), 3)]
                    told = least_effort(canon, table, prices, n, heard=heard)
                    rows, loop = walked(numbers, n)
                    costs = [least_word(table, prices, len(beats), known=[
                        (beats.index(beat), note) for beat, note in heard if beat in beats]) for beats in rows]
                    if loop is not None:
                        notes = [note for note in loop_notes(table) if dict(heard).get(loop, note) == note]
                        costs.append(min(((prices[note], [note]) for note in notes), default=None))
                    self.assertEqual(told, None if None in costs else sum(cost for cost, word in costs))
                    seen.add((told is None, loop is None))
                    tune = [least_note(canon, table, prices, n, beat, heard=heard) for beat in range(n)]
                    self.assertEqual(tune == [None] * n if told is None else effort(prices, tune), told or told is None)
        self.assertEqual(len(seen), 4)

    def test_a_falling_row_is_told_from_behind(self):
        # The row is [11, 10, 8, 4]: of words of one effort the one that is first from beat 4 on.
        canon, table = Canon(1, 6, 2, 0), Table(3, 2, [(0, 1), (1, 2), (2, 0), (0, 2)])
        self.assertEqual([least_note(canon, table, [1, 1, 1], 12, beat) for beat in (4, 8, 10, 11)], [0, 2, 0, 2])
        self.assertEqual([least_note(canon, table, [0, 1, 1], 12, beat) for beat in (4, 8, 10, 11)], [0, 2, 0, 2])
        # Read from beat 11 on the words 1, 2, 0, 1 and 2, 0, 1, 2 cost as much, and 0, 1, 2, 0 as 2, 0, 2, 0.
        self.assertEqual([least_note(canon, table, [5, 1, 1], 12, beat) for beat in (4, 8, 10, 11)], [1, 0, 2, 1])
        self.assertEqual([least_note(canon, table, [5, 1, 1], 12, beat, heard=[(4, 0)]) for beat in (4, 8, 10, 11)],
                         [0, 2, 0, 2])

    def test_the_loop(self):
        canon, table = Canon(1, 0, 2, 0), Table(4, 2, [(1, 1), (2, 2), (3, 3), (0, 3)])
        self.assertEqual(least_effort(canon, table, [0, 5, 3, 3], 1), 3)
        self.assertEqual(least_note(canon, table, [0, 5, 3, 3], 1, 0), 2)
        self.assertEqual(least_effort(canon, table, [0, 5, 3, 3], 1, heard=[(0, 1)]), 5)
        self.assertIsNone(least_effort(canon, table, [0, 5, 3, 3], 1, heard=[(0, 0)]))
        self.assertIsNone(least_note(canon, table, [0, 5, 3, 3], 1, 0, heard=[(0, 0)]))

    def test_none_where_another_row_lets_none(self):
        canon, table = Canon(1, 0, 2, 1), Table(2, 2, [(0, 1), (1, 0)])
        self.assertIsNone(least_note(canon, table, [1, 2], 6, 4, heard=[(0, 1), (1, 1)]))
        self.assertIsNone(least_effort(canon, table, [1, 2], 6, heard=[(0, 1), (1, 1)]))
        self.assertIsNone(least_note(canon, Table(2, 2, []), [1, 2], 6, 4))
        self.assertEqual(least_effort(heard=[(0, 1)], n=6, prices=[1, 2], table=table, canon=canon), 9)
        self.assertEqual(least_note(heard=[(0, 1)], beat=3, n=6, prices=[1, 2], table=table, canon=canon), 1)
        self.assertEqual(least_effort(canon, table, [1, 2], 0), 0)

    def test_where_all_cost_the_same_it_is_the_first_tune(self):
        for numbers in small_numbers()[::61]:
            canon = Canon(*numbers)
            for table in small_tables()[::7]:
                for n in (5, 21):
                    prices = [2] * table.notes()
                    for beat in range(n):
                        self.assertEqual(least_note(canon, table, prices, n, beat), first_note(canon, table, n, beat))
                    told = least_effort(canon, table, prices, n)
                    self.assertEqual(told, 2 * n if bar(canon, table, n) is None else None)


class Prices(unittest.TestCase):
    def cases(self):
        for number, numbers in enumerate(tuned_numbers() + small_numbers()[::97]):
            for table in drawn("dear", 3, 2, 4) + drawn("dear", 2, 3, 3) + [full_table(4, 2)]:
                for n in (0, 3, 20, 10 ** 20):
                    chance = random.Random(f"dear {number} {n}")
                    prices = [chance.randrange(20) for note in range(table.notes())]
                    beats = sorted({chance.randrange(n) for again in range(2)}) if n else []
                    heard = [(beat, chance.randrange(table.notes())) for beat in beats]
                    told = least_effort(Canon(*numbers), table, prices, n, heard=heard)
                    if told is not None:
                        yield Canon(*numbers), table, prices, n, heard, told

    def test_a_dearer_note(self):
        for canon, table, prices, n, heard, told in self.cases():
            for note in range(table.notes()):
                for rise in (1, 5, 10 ** 8):
                    dearer = prices[:note] + [prices[note] + rise] + prices[note + 1:]
                    later = least_effort(canon, table, dearer, n, heard=heard)
                    self.assertTrue(told <= later <= told + rise * n)

    def test_twice_and_more(self):
        for canon, table, prices, n, heard, told in self.cases():
            twice = [2 * price for price in prices]
            self.assertEqual(least_effort(canon, table, twice, n, heard=heard), 2 * told)
            for more in (1, 7, 10 ** 8):
                dearer = [price + more for price in prices]
                self.assertEqual(least_effort(canon, table, dearer, n, heard=heard), told + more * n)
                if n:
                    for beat in (0, n // 2, n - 1):
                        self.assertEqual(least_note(canon, table, dearer, n, beat, heard=heard),
                                         least_note(canon, table, prices, n, beat, heard=heard))


if __name__ == "__main__":
    unittest.main()
