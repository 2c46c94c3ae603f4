"""Points 3 and 27 to 37 for numbers of thirty figures, all of them told at once."""

import unittest
from fractions import Fraction

from leadbeats.canons import Canon
from leadbeats.counts import bar, fitting, growth, longest_tune
from leadbeats.rows import begun, row, rows, runs
from leadbeats.tables import Table
from leadbeats.tunes import fault, first_note, goes_on, last_note, mended, next_notes, tune_at, tune_number
from leadbeats.words import many_words, may
from tests.trials import as_pair, count, drawn, ending, full_table, loop_notes, rising_table
from tests.walks import GREAT, great_numbers, great_row, within

LENGTHS = (10 ** 6 + 1, GREAT, 9 * GREAT + 12345)


def great_tables():
    """Tables whose words end and whose words do not, with loop notes and without, up to the greatest."""
    return [full_table(4, 4), Table(2, 2, [(0, 0), (0, 1), (1, 0)]), Table(2, 2, [(0, 1), (1, 0)]), rising_table(4, 2),
            ending("great", 4, 4), ending("great", 3, 3), Table(4, 2, []), *drawn("great", 3, 3, 2)]


def great_tunes():
    """Canons, tables and lengths: the numbers, the canon, the table and n."""
    for numbers in great_numbers():
        for table in great_tables():
            for n in LENGTHS:
                yield numbers, Canon(*numbers), table, n


def great_bar(canon, table, n):
    """What bars all tunes of n beats, by the lengths of rows."""
    loop = canon.loop()
    if loop is not None and loop < n and not loop_notes(table):
        return "loop"
    barred = [length for length, many in rows(canon, n) if count(table, length) == 0]
    return barred[0] if barred else None


def some_beats(numbers, n):
    """Some beats of a tune of n beats."""
    a, b, c, d = numbers
    return sorted({beat for beat in (0, 1, b, d, b + a, d + c, n // 2, 2 * n // 3 + 1, n - 2, n - 1) if 0 <= beat < n})


class GreatCounts(unittest.TestCase):
    def test_bases_and_exponents(self):
        with within(60):
            for numbers, canon, table, n in great_tunes():
                told = fitting(canon, table, n)
                if great_bar(canon, table, n) is not None:
                    self.assertEqual(told, [])
                    continue
                wanted = {}
                for length, many in rows(canon, n):
                    base = count(table, length)
                    wanted[base] = wanted.get(base, 0) + many
                if canon.loop() is not None and canon.loop() < n:
                    base = len(loop_notes(table))
                    wanted[base] = wanted.get(base, 0) + 1
                wanted.pop(1, None)
                self.assertEqual(told, sorted(wanted.items()) or [(1, 1)], (numbers, n))

    def test_bars(self):
        seen = set()
        with within(60):
            for numbers, canon, table, n in great_tunes():
                told = bar(canon, table, n)
                wanted = great_bar(canon, table, n)
                seen.add(None if told is None else told[0])
                if wanted is None or wanted == "loop":
                    self.assertEqual(told, None if wanted is None else ("loop", canon.loop()))
                    continue
                kind, first, length = told
                self.assertEqual((kind, length), ("row", wanted))
                self.assertEqual(row(canon, n, first), (first, 0, length))
                # No row of this length begins ahead of it.
                self.assertEqual(begun(canon, n, length, first), 0)
        self.assertEqual(seen, {None, "loop", "row"})

    def test_longest_tunes(self):
        with within(60):
            for numbers in great_numbers():
                canon = Canon(*numbers)
                for table in great_tables():
                    told = longest_tune(canon, table)
                    if told is None:
                        self.assertIsNone(bar(canon, table, 9 * GREAT + 12345))
                        continue
                    n, barred = told
                    self.assertIsNone(great_bar(canon, table, n))
                    self.assertIsNotNone(great_bar(canon, table, n + 1))
                    self.assertEqual((bar(canon, table, n), bar(canon, table, n + 1)), (None, barred))
                    self.assertIsNone(growth(canon, table, n + 1))
                    self.assertEqual(growth(canon, table, n), (0, 1))

    def test_growth_by_the_rows_of_two_lengths(self):
        seen = set()
        with within(60):
            for numbers, canon, table, n in great_tunes():
                for end in (n, numbers[1] + numbers[0] * 7, numbers[3] + numbers[2] * 5, canon.loop() or n):
                    told = growth(canon, table, end)
                    if great_bar(canon, table, end) is not None:
                        self.assertIsNone(told)
                        continue
                    here, later = dict(rows(canon, end)), dict(rows(canon, end + 1))
                    grown = Fraction(1)
                    for length in {*here, *later}:
                        grown *= Fraction(count(table, length)) ** (later.get(length, 0) - here.get(length, 0))
                    if canon.loop() == end:
                        self.assertEqual(here, later)
                        grown *= len(loop_notes(table))
                    self.assertEqual(told, as_pair(grown), (numbers, end))
                    seen.add((grown > 1) - (grown < 1))
        self.assertEqual(seen, {-1, 0, 1})

    def test_written_down(self):
        canon, n = Canon(1, 0, 2, 0), 2 ** 98
        told = [(2, 2 ** 96 + 1)] + [(2 ** length, 2 ** (97 - length)) for length in range(2, 98)]
        self.assertEqual(fitting(canon, full_table(2, 2), n), told + [(2 ** 98, 1)])
        self.assertEqual(fitting(canon, Table(2, 2, [(0, 0), (1, 1)]), n), [(2, 2 ** 97 + 1)])
        # Rows begin with the even beats, and have five beats where the sixth would be beyond the end.
        first = -((31 - GREAT) // 32)
        self.assertEqual(bar(Canon(1, 0, 2, 1), rising_table(4, 2), GREAT), ("row", first + first % 2, 5))
        self.assertEqual(longest_tune(Canon(1, GREAT, 2, 0), Table(2, 2, [(0, 1), (1, 0)])),
                         (2 * GREAT, ("loop", 2 * GREAT)))


class GreatNotes(unittest.TestCase):
    def outer(self, table, notes_asked, order):
        """The notes, by their places in a row, of the least list read in an order of places."""
        known = []
        for place in order:
            known.append((place, notes_asked(may(table, len(order), place, known=known))))
        return [note for place, note in sorted(known)]

    def test_against_notes_that_words_have(self):
        seen = set()
        with within(60):
            for numbers, canon, table, n in great_tunes():
                if n != LENGTHS[-1] and table.notes() > 2:
                    continue
                barred = great_bar(canon, table, n) is not None
                for beat in some_beats(numbers, n):
                    told = (first_note(canon, table, n, beat), last_note(canon, table, n, beat))
                    if barred:
                        self.assertEqual(told, (None, None))
                        continue
                    if canon.loop() == beat:
                        self.assertEqual(told, (loop_notes(table)[0], loop_notes(table)[-1]))
                        seen.add("loop")
                        continue
                    beats = great_row(numbers, n, beat)
                    if len(beats) > 12 and table.voices() > 2:
                        continue
                    falls = beats[0] > beats[-1]
                    order = list(range(len(beats)))[::-1 if falls else 1]
                    place = beats.index(beat)
                    self.assertEqual(told, (self.outer(table, min, order)[place], self.outer(table, max, order)[place]))
                    seen.add((falls, min(len(beats), 3)))
        self.assertEqual(len(seen), 6)

    def test_far_off(self):
        with within(5):
            # Notes 0 and 1 alternate in a row: so the note of beat 2 ** power is told by the power.
            canon, table = Canon(1, 0, 2, 0), Table(3, 2, [(0, 1), (1, 0), (2, 2)])
            for power in range(99):
                self.assertEqual(first_note(canon, table, 2 ** 99, 2 ** power), power % 2)
                self.assertEqual(last_note(canon, table, 2 ** 99, 2 ** power), 2)
            self.assertEqual(first_note(canon, table, 9 * GREAT, 0), 2)
            falling = Canon(1, 2 ** 97, 2, 0)
            n = 2 ** 98
            for power in range(99):
                # The row is all the beats n - 2 ** power; beat 0 is the least of them.
                self.assertEqual(first_note(falling, table, n, n - 2 ** power), power % 2)


class GreatTunes(unittest.TestCase):
    def test_tunes_of_great_canons(self):
        with within(60):
            for numbers in great_numbers():
                canon = Canon(*numbers)
                for table in great_tables()[:4]:
                    if bar(canon, table, 40) is not None:
                        continue
                    tune = tune_at(canon, table, 40, 1)
                    self.assertEqual(tune_number(canon, table, tune), 1)
                    self.assertIsNone(fault(canon, table, tune))
                    self.assertEqual(mended(canon, table, tune), (0, tune))
                    for note in next_notes(canon, table, tune):
                        self.assertIsNone(fault(canon, table, tune + [note]))

    def fits_on(self, numbers, table, tune, n):
        """Whether a tune of n beats that fits begins with a tune."""
        if great_bar(Canon(*numbers), table, n) is not None:
            return False
        for beat in range(len(tune)):
            if Canon(*numbers).loop() != beat:
                beats = great_row(numbers, n, beat)
                known = [(place, tune[sung]) for place, sung in enumerate(beats) if sung < len(tune)]
                if many_words(table, len(beats), known=known) == 0:
                    return False
        return True

    def test_goes_on(self):
        seen = set()
        with within(90):
            for numbers in great_numbers():
                canon = Canon(*numbers)
                for table in great_tables()[2:]:
                    for n in (1, 12):
                        if bar(canon, table, n) is not None:
                            continue
                        tune = [last_note(canon, table, n, beat) for beat in range(n)]
                        told = goes_on(canon, table, tune)
                        end = 9 * GREAT if told is None else told
                        self.assertTrue(self.fits_on(numbers, table, tune, end), (numbers, table.allowed(), tune))
                        if told is not None:
                            self.assertFalse(self.fits_on(numbers, table, tune, told + 1))
                            seen.add(told > 1000)
        self.assertEqual(seen, {True, False})

    def test_what_was_told_may_be_handed_in_again(self):
        with within(20):
            table = ending("great", 4, 4)
            canon = Canon(GREAT + 7, 3, 9 * GREAT + 1, 8)
            n, barred = longest_tune(canon, table)
            self.assertGreater(n, GREAT ** 10)
            self.assertEqual(runs(canon, n + 1, barred[2]), 1)
            for end in (n - 1, n):
                self.assertNotEqual(fitting(canon, table, end), [])
                self.assertIsNotNone(first_note(canon, table, end, end - 1))
            self.assertIsNone(first_note(canon, table, n + 1, n))


if __name__ == "__main__":
    unittest.main()
