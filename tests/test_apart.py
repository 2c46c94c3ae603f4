"""Points 24 and 25: which words set two tables apart, and the words of tables made of tables."""

import unittest

from leadbeats.errors import TooMany, Unlike
from leadbeats.tables import Table, both_of, renamed, turned
from leadbeats.words import apart, many_words, widened, word_fault
from tests.trials import (all_words, chords, count, drawn, ending, every, full_table, is_word, rising_table,
                          small_tables)
from tests.walks import within


def many_apart(one, other, length):
    """How many words of a length are words of just one of two tables."""
    both = Table(one.notes(), one.voices(), [chord for chord in one.allowed() if chord in other.allowed()])
    return count(one, length) + count(other, length) - 2 * count(both, length)


def words_apart(one, other, length):
    """All words of a length that are words of just one of two tables, sorted."""
    left, right = all_words(one, length), all_words(other, length)
    return sorted([word for word in left if word not in right] + [word for word in right if word not in left])


class Apart(unittest.TestCase):
    def check(self, one, other):
        told = apart(one, other)
        self.assertEqual(told, apart(other, one))
        if one == other:
            self.assertIsNone(told)
            return "equal"
        self.assertIsInstance(told, tuple)
        last, word = told
        # All words of the length are tried, where they are few enough.
        length = one.voices() if last is None else last
        if one.notes() ** length <= 300:
            self.assertEqual(word, words_apart(one, other, length)[0])
        self.assertEqual(len(word), length)
        self.assertNotEqual(is_word(one, word), is_word(other, word))
        for size in range(one.voices(), length + 1):
            self.assertGreater(many_apart(one, other, size), 0)
        if last is None:
            self.assertGreater(many_apart(one, other, 300), 0)
            return "endless"
        self.assertEqual(many_apart(one, other, last + 1), 0, (one.allowed(), other.allowed()))
        return last - one.voices()

    def test_all_of_two_notes_and_voices(self):
        told = every(2, 2)
        kinds = {self.check(one, other) for one in told for other in told}
        self.assertEqual(kinds, {"equal", "endless", 0})

    def test_drawn_ones(self):
        kinds = set()
        for notes, voices, many in ((2, 3, 16), (2, 4, 8), (3, 2, 16), (3, 3, 6), (4, 2, 8)):
            told = drawn("apart", notes, voices, many) + [Table(notes, voices, []), rising_table(notes, voices)]
            told += [ending("apart", notes, voices), ending("other", notes, voices)]
            told += [ending("apart", notes, voices, 0.6)]
            kinds |= {self.check(one, other) for one in told for other in told}
        self.assertGreater(len(kinds), 8)

    def test_one_tuple_more(self):
        # Where words end the last length hangs on the one tuple, and on either table.
        kinds = set()
        for table in [rising_table(4, 2), rising_table(4, 3)] + drawn("more", 4, 2, 4) + drawn("more", 2, 4, 4):
            for chord in chords(table.notes(), table.voices()):
                more = Table(table.notes(), table.voices(), sorted({*table.allowed(), chord}))
                kinds.add(self.check(table, more))
        self.assertGreater(len(kinds), 3)

    def test_words_far_apart(self):
        with within(30):
            one = ending("far", 4, 4)
            told = [self.check(one, other) for other in (full_table(4, 4), Table(4, 4, []), rising_table(4, 4),
                                                         ending("far", 4, 4, 0.8), *drawn("far", 4, 4, 2))]
        self.assertGreater(max(last for last in told if last != "endless"), 20)

    def test_written_down(self):
        one, other = Table(4, 2, [(0, 1), (1, 2), (2, 3)]), Table(4, 2, [(0, 1), (2, 3)])
        self.assertEqual(apart(one=one, other=other), (4, [0, 1, 2, 3]))
        self.assertEqual(apart(other, one), (4, [0, 1, 2, 3]))
        self.assertIsNone(apart(one, Table(4, 2, [(2, 3), (1, 2), (0, 1)])))
        self.assertEqual(apart(Table(2, 2, []), Table(2, 2, [(1, 0), (1, 1)])), (None, [1, 0]))
        self.assertEqual(apart(Table(2, 2, [(1, 1)]), Table(2, 2, [(1, 0), (1, 1)])), (None, [1, 0]))
        self.assertEqual(apart(Table(2, 2, [(0, 1)]), Table(2, 2, [(1, 0)])), (2, [0, 1]))
        # Without a bound, though what lies behind the tuple is bounded.
        self.assertEqual(apart(Table(3, 2, [(0, 0)]), Table(3, 2, [(0, 0), (0, 1), (1, 2)])), (None, [0, 1]))
        self.assertEqual(apart(Table(3, 2, [(1, 2)]), Table(3, 2, [(0, 1), (1, 2)])), (3, [0, 1, 2]))

    def test_the_word_told_is_the_askers_own(self):
        one, other = Table(2, 2, [(0, 1)]), Table(2, 2, [(1, 0)])
        apart(one, other)[1].append(5)
        self.assertEqual(apart(one, other), (2, [0, 1]))

    def test_unlike_tables(self):
        for one, other, part in ((Table(2, 2, []), Table(3, 2, []), "notes"),
                                 (Table(2, 2, []), Table(2, 4, []), "voices"),
                                 (Table(2, 2, []), Table(4, 3, []), "notes")):
            for left, right in ((one, other), (other, one)):
                with self.assertRaises(Unlike) as caught:
                    apart(left, right)
                self.assertEqual(caught.exception.part, part)


class Widened(unittest.TestCase):
    def test_the_same_words_from_a_voice_more_on(self):
        for table in small_tables():
            if table.voices() == 4:
                continue
            wider = widened(table=table)
            self.assertEqual((wider.notes(), wider.voices()), (table.notes(), table.voices() + 1))
            for length in range(table.voices() + 1, 7):
                if table.notes() ** length <= 1100:
                    self.assertEqual(all_words(wider, length), all_words(table, length))
            self.assertEqual(many_words(wider, table.voices()), table.notes() ** table.voices())
            for length in (12, 50):
                self.assertEqual(many_words(wider, length), count(table, length))

    def test_written_down(self):
        self.assertEqual(widened(Table(2, 2, [(0, 1), (1, 0), (1, 1)])).allowed(),
                         [(0, 1, 0), (0, 1, 1), (1, 0, 1), (1, 1, 0), (1, 1, 1)])
        self.assertEqual(widened(Table(3, 3, [(0, 1, 2)])), Table(3, 4, []))

    def test_four_voices(self):
        for table in (Table(1, 4, []), full_table(4, 4)):
            with self.assertRaises(TooMany) as caught:
                widened(table)
            self.assertEqual(caught.exception.many, 4)


class WordsOfTables(unittest.TestCase):
    def test_words_of_made_tables_of_several_lengths(self):
        one, other = drawn("made", 3, 3, 2)
        for length in (0, 2, 3, 10, 33):
            self.assertEqual(many_words(turned(one), length), count(one, length))
            self.assertEqual(many_words(renamed(one, [2, 0, 1]), length), count(one, length))
            both = [chord for chord in one.allowed() if chord in other.allowed()]
            self.assertEqual(many_words(both_of(one, other), length), count(Table(3, 3, both), length))

    def test_a_sum_of_lengths(self):
        for table in small_tables():
            told = [many_words(table, length) for length in range(15)]
            for one in range(8):
                for other in range(7):
                    self.assertLessEqual(told[one + other], told[one] * told[other])

    def test_a_table_that_allows_more(self):
        for table in drawn("allows", 2, 3, 5) + drawn("allows", 3, 2, 5):
            for chord in chords(table.notes(), table.voices()):
                more = Table(table.notes(), table.voices(), sorted({*table.allowed(), chord}))
                for length in (0, 1, 3, 5, 20):
                    self.assertGreaterEqual(many_words(more, length), many_words(table, length))
                self.assertEqual(word_fault(more, list(chord)), None)


if __name__ == "__main__":
    unittest.main()
