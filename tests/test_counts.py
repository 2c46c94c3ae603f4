"""Points 27 to 32: how many tunes fit, what bars them, and how their number grows."""

import itertools
import unittest
from fractions import Fraction
from math import prod

from leadbeats.canons import Canon
from leadbeats.counts import as_number, bar, fitting, growth, longest_tune
from leadbeats.errors import NoLength, TooMany
from leadbeats.rows import rows
from leadbeats.tables import Table, turned
from leadbeats.words import widened
from tests.trials import (as_pair, chords, drawn, ending, every, first_bar, fitting_tunes, full_table, loop_notes,
                          many_tunes, powers, rising_table, small_tables, tuned_numbers, tuned_tables)
from tests.walks import GREAT, NO_WHOLES, small_numbers, walk

TRIED = 300
BOUND = 100


def bounded_tables():
    """Tables whose words end, and some without a loop note whose words do not."""
    told = [Table(2, 2, []), Table(2, 3, []), Table(1, 4, [])]
    told += [rising_table(4, 2), rising_table(4, 3), rising_table(3, 2)]
    told += [ending("bounded", notes, voices) for notes, voices in ((2, 2), (2, 3), (2, 4), (3, 2), (3, 3), (4, 2))]
    return told + [Table(2, 2, [(0, 1), (1, 0)]), Table(3, 3, [(0, 1, 2), (1, 2, 0), (2, 0, 1)])]


class Fitting(unittest.TestCase):
    def test_against_all_tunes(self):
        seen = set()
        for numbers, table in itertools.product(tuned_numbers(), tuned_tables()):
            for n in range(8):
                if table.notes() ** n > TRIED:
                    break
                told = fitting(Canon(*numbers), table, n)
                many = len(fitting_tunes(numbers, table, n))
                self.assertEqual(prod(base ** exponent for base, exponent in told) if told else 0, many)
                self.assertEqual(told == [(1, 1)], many == 1)
                self.assertEqual(as_number(Canon(*numbers), table, n), many)
                loop = walk(numbers, n)[1]
                seen.add((min(many, 2), loop is None))
        self.assertEqual(len(seen), 6)

    def test_bases_and_exponents(self):
        for numbers in small_numbers()[::29] + tuned_numbers():
            for table in small_tables()[::5] + bounded_tables():
                for n in (0, 1, 2, 3, 5, 9, 16, 31, 58):
                    told = powers(numbers, table, n)
                    wanted = sorted([(base, exponent) for base, exponent in told.items() if base > 1]) or [(1, 1)]
                    self.assertEqual(fitting(Canon(*numbers), table, n), [] if 0 in told else wanted, (numbers, n))

    def test_written_down(self):
        canon = Canon(1, 0, 2, 0)
        # Rows of beats 1 to 9 are of lengths 4, 2, 1, 1 and 1, and beat 0 is the loop.
        table = Table(2, 2, [(0, 0), (0, 1), (1, 0)])
        self.assertEqual(fitting(canon, table, 10), [(2, 3), (3, 1), (8, 1)])
        self.assertEqual(fitting(canon, full_table(2, 2), 10), [(2, 4), (4, 1), (16, 1)])
        # A word of one note, of two, and a loop note: each of them two.
        self.assertEqual(fitting(canon, Table(2, 2, [(0, 0), (1, 1)]), 10), [(2, 6)])
        self.assertEqual(fitting(canon, Table(2, 2, [(0, 1), (1, 0)]), 10), [])
        self.assertEqual(fitting(canon, Table(2, 2, [(0, 1), (1, 0)]), 0), [(1, 1)])
        self.assertEqual(fitting(canon, Table(1, 2, [(0, 0)]), 10), [(1, 1)])
        self.assertEqual(fitting(canon, Table(1, 2, []), 1), [])
        self.assertEqual(fitting(n=10, table=table, canon=canon), [(2, 3), (3, 1), (8, 1)])

    def test_a_loop_below_and_beyond_the_end(self):
        # Of six beats the rows are [1], [3, 0] and [5, 4, 2]; beat 6 is the loop.
        canon = Canon(1, 3, 2, 0)
        one_note = Table(3, 2, [(0, 1), (1, 0), (2, 2), (2, 0)])
        self.assertEqual(fitting(canon, one_note, 6), [(3, 1), (4, 1), (5, 1)])
        self.assertEqual(fitting(canon, one_note, 7), [(3, 1), (4, 1), (5, 1)])
        two_notes = Table(3, 2, [(0, 0), (2, 2), (2, 0)])
        self.assertEqual(fitting(canon, two_notes, 6), [(3, 2), (4, 1)])
        self.assertEqual(fitting(canon, two_notes, 7), [(2, 1), (3, 2), (4, 1)])
        no_note = Table(3, 2, [(0, 1), (1, 0)])
        self.assertEqual(fitting(canon, no_note, 6), [(2, 2), (3, 1)])
        self.assertEqual(fitting(canon, no_note, 7), [])


class Barred(unittest.TestCase):
    def test_against_rows_walked(self):
        kinds = set()
        for numbers in small_numbers()[::13] + tuned_numbers():
            for table in bounded_tables():
                for n in (0, 1, 2, 3, 4, 6, 9, 13, 20, 31, 58):
                    told = first_bar(numbers, table, n)
                    self.assertEqual(bar(Canon(*numbers), table, n), told, (numbers, table.allowed(), n))
                    self.assertEqual(told is None, many_tunes(numbers, table, n) > 0)
                    kinds.add(told if told is None else told[0])
        self.assertEqual(kinds, {None, "loop", "row"})

    def test_what_bars_n_bars_all_that_are_longer(self):
        for numbers in tuned_numbers():
            for table in bounded_tables():
                told = [bar(Canon(*numbers), table, n) is None for n in range(40)]
                self.assertEqual(told, sorted(told, reverse=True))

    def test_the_least_length_and_the_least_first_beat(self):
        canon = Canon(1, 0, 2, 1)
        # Rows [0, 1, 3, 7, 15], [2, 5, 11], [4, 9], [6, 13], [8], [10] and so on; words have one note at most.
        self.assertEqual(bar(canon, Table(2, 2, []), 16), ("row", 4, 2))
        self.assertEqual(bar(canon, Table(2, 3, []), 16), ("row", 2, 3))
        self.assertEqual(bar(canon, Table(2, 4, []), 16), ("row", 0, 5))
        self.assertEqual(bar(canon, Table(2, 2, []), 2), ("row", 0, 2))
        self.assertEqual(bar(canon, Table(2, 2, []), 6), ("row", 2, 2))
        self.assertIsNone(bar(canon, Table(2, 2, []), 1))
        falling = Canon(1, 6, 2, 0)
        # Rows [7, 2], [9, 6, 0] and [11, 10, 8, 4].
        self.assertEqual(bar(falling, Table(2, 2, []), 12), ("row", 7, 2))
        self.assertEqual(bar(falling, Table(2, 3, []), 12), ("row", 9, 3))
        self.assertEqual(bar(falling, Table(2, 4, []), 12), ("row", 11, 4))
        self.assertEqual(bar(n=12, table=Table(2, 4, []), canon=falling), ("row", 11, 4))

    def test_the_loop_is_told_ahead_of_rows(self):
        canon = Canon(1, 6, 2, 0)
        self.assertEqual(bar(canon, Table(2, 2, []), 13), ("loop", 12))
        self.assertEqual(bar(canon, Table(2, 2, []), 12), ("row", 7, 2))
        self.assertIsNone(bar(canon, Table(2, 2, [(0, 0)]), 13))
        self.assertEqual(bar(Canon(1, 0, 2, 0), Table(2, 2, [(0, 1), (1, 0)]), 1), ("loop", 0))


class LongestTunes(unittest.TestCase):
    def test_against_rows_walked(self):
        seen = set()
        for numbers in small_numbers()[::31] + tuned_numbers():
            for table in bounded_tables() + drawn("longest", 3, 2, 2) + drawn("longest", 2, 3, 2):
                told = longest_tune(Canon(*numbers), table)
                barred = next((n for n in range(BOUND) if first_bar(numbers, table, n) is not None), None)
                if barred is not None:
                    n = barred - 1
                    self.assertEqual(told, (n, first_bar(numbers, table, n + 1)), (numbers, table.allowed()))
                    seen.add(told[1][0])
                elif told is None:
                    seen.add(None)
                else:
                    self.assertGreaterEqual(told[0], BOUND - 1)
        self.assertEqual(seen, {None, "loop", "row"})

    def test_what_is_told_bars_one_beat_more(self):
        for numbers in small_numbers()[::19]:
            canon = Canon(*numbers)
            for table in bounded_tables() + [ending("tunes", 4, 4), ending("tunes", 3, 4)]:
                told = longest_tune(table=table, canon=canon)
                if told is not None:
                    n, barred = told
                    self.assertIsNone(bar(canon, table, n))
                    self.assertEqual(bar(canon, table, n + 1), barred)
                    self.assertNotEqual(fitting(canon, table, n), [])
                    self.assertEqual(fitting(canon, table, n + 1), [])

    def test_all_lengths_fit(self):
        for numbers in tuned_numbers():
            self.assertIsNone(longest_tune(Canon(*numbers), Table(2, 2, [(1, 1)])))
            self.assertIsNone(longest_tune(Canon(*numbers), Table(1, 4, [(0, 0, 0, 0)])))
            alternate = longest_tune(Canon(*numbers), Table(2, 2, [(0, 1), (1, 0)]))
            loop = Canon(*numbers).loop()
            self.assertEqual(alternate, None if loop is None else (loop, ("loop", loop)))

    def test_unlike_rests(self):
        # Rows have two beats at most.
        canon = Canon(2, 3, 4, 0)
        self.assertIsNone(longest_tune(canon, Table(2, 3, [])))
        self.assertEqual(longest_tune(canon, Table(2, 2, [])), (3, ("row", 3, 2)))

    def test_written_down(self):
        self.assertEqual(longest_tune(Canon(1, 0, 2, 1), Table(2, 2, [])), (1, ("row", 0, 2)))
        self.assertEqual(longest_tune(Canon(1, 0, 2, 1), rising_table(4, 2)), (15, ("row", 0, 5)))
        self.assertEqual(longest_tune(Canon(1, 0, 2, 0), rising_table(4, 2)), (0, ("loop", 0)))
        self.assertEqual(longest_tune(Canon(1, 6, 2, 0), rising_table(3, 2)), (11, ("row", 11, 4)))
        self.assertEqual(longest_tune(Canon(1, 6, 2, 0), rising_table(4, 2)), (12, ("loop", 12)))


class Growing(unittest.TestCase):
    def test_against_two_lengths(self):
        seen = set()
        for numbers in small_numbers()[::37] + tuned_numbers():
            canon = Canon(*numbers)
            for table in small_tables()[::6] + bounded_tables():
                for n in (0, 1, 2, 3, 4, 5, 6, 9, 12, 13, 22, 31):
                    here, later = many_tunes(numbers, table, n), many_tunes(numbers, table, n + 1)
                    told = growth(canon, table, n)
                    self.assertEqual(told, None if here == 0 else as_pair(Fraction(later, here)), (numbers, n))
                    if told is not None:
                        seen.add((told[0] > told[1]) - (told[0] < told[1]))
                        if canon.loop() == n:
                            seen.add("loop")
                            self.assertEqual(told, (len(loop_notes(table)), 1))
                    else:
                        seen.add(None)
        self.assertEqual(seen, {-1, 0, 1, None, "loop"})

    def test_written_down(self):
        canon, table = Canon(1, 0, 2, 1), Table(3, 2, [(0, 1), (1, 2), (2, 2)])
        # Three notes have three words of each length: beat 1 comes behind beat 0, beat 2 is alone.
        self.assertEqual([growth(canon, table, n) for n in range(4)], [(3, 1), (1, 1), (3, 1), (1, 1)])
        table = Table(4, 2, [(0, 1), (2, 3), (1, 2)])
        self.assertEqual([growth(canon, table, n) for n in (0, 1, 3, 7, 15)], [(4, 1), (3, 4), (2, 3), (1, 2), (0, 1)])
        self.assertIsNone(growth(canon, table, 16))
        self.assertEqual(growth(n=7, table=table, canon=canon), (1, 2))
        self.assertEqual(growth(Canon(1, 0, 2, 0), table, 0), (0, 1))
        self.assertIsNone(growth(Canon(1, 0, 2, 0), table, 1))


class Numbers(unittest.TestCase):
    def test_against_the_powers(self):
        for numbers in tuned_numbers() + small_numbers()[::41]:
            for table in small_tables()[::9] + bounded_tables()[::2]:
                for n in (0, 1, 7, 40, 999, 1000):
                    told = fitting(Canon(*numbers), table, n)
                    many = prod(base ** exponent for base, exponent in told) if told else 0
                    self.assertEqual(as_number(Canon(*numbers), table, n), many)

    def test_a_thousand_and_more(self):
        canon, table = Canon(1, 0, 2, 0), full_table(4, 4)
        self.assertEqual(as_number(canon, table, 1000), 4 ** 1000)
        self.assertEqual(as_number(n=1000, table=table, canon=canon), 4 ** 1000)
        for n in (1001, 1002, 9 * GREAT):
            for tried in (table, Table(2, 2, []), Table(1, 2, [(0, 0)])):
                with self.assertRaises(TooMany) as caught:
                    as_number(canon, tried, n)
                self.assertEqual(caught.exception.many, 1000)

    def test_no_lengths(self):
        canon = Canon(1, 0, 2, 0)
        for ask in (fitting, bar, growth, as_number):
            for table in (Table(2, 2, [(0, 1)]), full_table(2, 2), Table(2, 2, [(0, 1), (1, 0)])):
                for thing in NO_WHOLES + (-1001, -9 * GREAT, [1001], (1001,), "1001"):
                    with self.assertRaises(NoLength) as caught:
                        ask(canon, table, thing)
                    self.assertIs(caught.exception.length, thing)


class Tables(unittest.TestCase):
    def test_a_tuple_more(self):
        for numbers in tuned_numbers():
            canon = Canon(*numbers)
            for table in drawn("counts", 2, 3, 3) + drawn("counts", 3, 2, 3):
                for chord in chords(table.notes(), table.voices()):
                    more = Table(table.notes(), table.voices(), sorted({*table.allowed(), chord}))
                    for n in (1, 5, 12, 40):
                        self.assertGreaterEqual(as_number(canon, more, n), as_number(canon, table, n))

    def test_turned_about(self):
        for numbers in small_numbers()[::41]:
            for table in small_tables()[::5]:
                for n in (0, 3, 17, 90):
                    canon = Canon(*numbers)
                    self.assertEqual(fitting(canon, turned(table), n), fitting(canon, table, n))

    def test_widened(self):
        seen = set()
        for numbers in small_numbers()[::23] + tuned_numbers():
            for table in every(2, 2)[::3] + drawn("wide", 3, 2, 3) + drawn("wide", 2, 3, 5):
                for n in (0, 2, 3, 9, 30):
                    canon = Canon(*numbers)
                    here, wide = as_number(canon, table, n), as_number(canon, widened(table), n)
                    self.assertGreaterEqual(wide, here)
                    if table.voices() not in [length for length, many in rows(canon, n)]:
                        self.assertEqual(wide, here)
                    seen.add(wide > here)
        self.assertEqual(seen, {True, False})


if __name__ == "__main__":
    unittest.main()
