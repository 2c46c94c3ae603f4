"""Points 20 to 23: words, against all lists of so many notes."""

import random
import unittest

from leadbeats.errors import NoNumber
from leadbeats.tables import Table
from leadbeats.words import (first_word, last_word, longest, many_words, may, needless, number_of, word_at,
                             word_fault)
from tests.trials import (all_lists, all_words, count, drawn, ending, every, full_table, is_word,
                          rising_table, small_tables)
from tests.walks import within

TRIED = 1500


def short_words():
    """Small tables with lengths: the table, the length and all its words."""
    for table in small_tables():
        for length in range(8):
            if table.notes() ** length <= TRIED:
                yield table, length, all_words(table, length)


def some_known(table, length):
    """Known notes of a length: none, some and all places, in any order, as lists and as tuples."""
    chance = random.Random(f"{table.notes()} {table.voices()} {length} {len(table.allowed())}")
    told = [[], ()]
    for many in (1, 2, length // 2, length - 1, length, length):
        if 0 < many <= length:
            places = chance.sample(range(length), many)
            known = [(place, chance.randrange(table.notes())) for place in places]
            told.append(known if chance.random() < 0.5 else tuple(known))
    words = all_words(table, length)
    if words:
        known = list(enumerate(chance.choice(words)))
        chance.shuffle(known)
        told += [known, tuple(known[:length // 2])]
    return told


class Words(unittest.TestCase):
    def test_without_known_notes(self):
        for table, length, words in short_words():
            self.assertEqual(many_words(table, length), len(words))
            self.assertEqual(first_word(table, length), words[0] if words else None)
            self.assertEqual(last_word(table, length), words[-1] if words else None)
            for place in range(length):
                self.assertEqual(may(table, length, place), sorted({word[place] for word in words}))

    def test_with_known_notes(self):
        for table, length, words in short_words():
            for known in some_known(table, length):
                told = [word for word in words if all(word[place] == note for place, note in known)]
                self.assertEqual(many_words(table, length, known=known), len(told), (table.allowed(), known))
                self.assertEqual(first_word(table, length, known=known), told[0] if told else None)
                self.assertEqual(last_word(table, length, known=known), told[-1] if told else None)
                for place in range(length):
                    notes = sorted({word[place] for word in told})
                    self.assertEqual(may(table, length, place, known=known), notes)

    def test_every_number_and_back(self):
        for table, length, words in short_words():
            if len(words) <= 100:
                for number, word in enumerate(words):
                    self.assertEqual(word_at(table, length, number), word)
                    self.assertEqual(number_of(table, word), number)
            with self.assertRaises(NoNumber):
                word_at(table, length, len(words))

    def test_every_number_with_known_notes(self):
        for table, length, words in short_words():
            for known in some_known(table, length)[2:]:
                told = [word for word in words if all(word[place] == note for place, note in known)]
                for number, word in list(enumerate(told))[:20]:
                    self.assertEqual(word_at(table, length, number, known=known), word)
                with self.assertRaises(NoNumber) as caught:
                    word_at(table, length, len(told), known=known)
                self.assertEqual(caught.exception.number, len(told))

    def test_lengths_below_the_voices(self):
        table = Table(3, 4, [])
        self.assertEqual([many_words(table, length) for length in range(6)], [1, 3, 9, 27, 0, 0])
        self.assertEqual((first_word(table, 0), last_word(table, 0), word_at(table, 0, 0)), ([], [], []))
        self.assertEqual((first_word(table, 3), last_word(table, 3)), ([0, 0, 0], [2, 2, 2]))
        self.assertEqual((first_word(table, 4), last_word(table, 4)), (None, None))
        self.assertEqual((may(table, 3, 1), may(table, 4, 1)), ([0, 1, 2], []))
        self.assertEqual(number_of(table, []), 0)
        self.assertEqual(number_of(table, [2, 0, 1]), 19)
        self.assertEqual(may(table, 3, 1, known=[(1, 2)]), [2])
        self.assertEqual(may(table, 4, 1, known=[(1, 2)]), [])

    def test_each_part_of_a_word_is_one(self):
        for table in drawn("parts", 3, 3, 5) + drawn("parts", 2, 4, 5):
            word = last_word(table, 12) or []
            for start in range(len(word)):
                for end in range(start, len(word) + 1):
                    self.assertIsNone(word_fault(table, word[start:end]))

    def test_by_names(self):
        table = Table(2, 2, [(0, 1), (1, 0), (1, 1)])
        self.assertEqual(many_words(length=4, table=table, known=[(0, 1)]), 5)
        self.assertEqual(may(place=1, length=4, table=table, known=[(0, 0)]), [1])
        self.assertEqual(first_word(known=((3, 0),), length=4, table=table), [0, 1, 1, 0])
        self.assertEqual(last_word(known=((3, 0),), length=4, table=table), [1, 1, 1, 0])
        self.assertEqual(word_at(number=1, known=(), length=4, table=table), [0, 1, 1, 0])
        self.assertEqual(number_of(word=[0, 1, 1, 0], table=table), 1)
        self.assertIsNone(word_fault(word=[0, 1, 1, 0], table=table))
        self.assertIsNone(longest(table=table))
        self.assertEqual(needless(length=4, table=table), [])

    def test_known_by_its_name_alone(self):
        table = full_table(2, 2)
        for ask, told in ((many_words, (4,)), (may, (4, 1)), (first_word, (4,)), (last_word, (4,)), (word_at, (4, 0))):
            with self.assertRaises(TypeError):
                ask(table, *told, [(0, 1)])


class LongWords(unittest.TestCase):
    def test_many_words_up_to_three_hundred(self):
        with within(30):
            for table in (full_table(4, 4), full_table(3, 2), *drawn("long", 4, 4, 2), *drawn("long", 2, 3, 3)):
                for length in (64, 150, 299, 300):
                    self.assertEqual(many_words(table, length), count(table, length))
        self.assertEqual(many_words(full_table(4, 4), 300), 4 ** 300)
        # Of the two notes no two 1s stand side by side.
        one, other = 1, 2
        for length in range(1, 300):
            one, other = other, one + other
        self.assertEqual(many_words(Table(2, 2, [(0, 0), (0, 1), (1, 0)]), 300), other)

    def test_numbers_of_long_words(self):
        with within(30):
            for table in (full_table(4, 4), Table(2, 2, [(0, 0), (0, 1), (1, 0)]), *drawn("long", 3, 3, 2)):
                many = many_words(table, 300)
                for number in sorted({at for at in (0, 1, many // 7, many // 2, many - 1) if 0 <= at < many}):
                    word = word_at(table, 300, number)
                    self.assertTrue(is_word(table, word) and len(word) == 300)
                    self.assertEqual(number_of(table, word), number)
                if many:
                    self.assertEqual(word_at(table, 300, 0), first_word(table, 300))
                    self.assertEqual(word_at(table, 300, many - 1), last_word(table, 300))

    def test_known_notes_far_off(self):
        table = Table(3, 2, [(0, 1), (1, 2), (2, 0)])
        known = [(299, 1)]
        self.assertEqual(first_word(table, 300, known=known), [(place + 2) - (place + 2) // 3 * 3
                                                               for place in range(300)])
        self.assertEqual(may(table, 300, 0, known=known), [2])
        self.assertEqual(many_words(table, 300, known=known + [(0, 1)]), 0)
        self.assertIsNone(first_word(table, 300, known=known + [(0, 1)]))
        self.assertIsNone(last_word(table, 300, known=known + [(0, 1)]))
        self.assertEqual(may(table, 300, 150, known=known + [(0, 1)]), [])


class Faults(unittest.TestCase):
    def test_against_all_lists(self):
        for table in small_tables():
            voices, allowed = table.voices(), table.allowed()
            for length in range(7):
                if table.notes() ** length > TRIED:
                    break
                for notes in all_lists(table.notes(), length):
                    places = [at for at in range(length - voices + 1) if tuple(notes[at:at + voices]) not in allowed]
                    self.assertEqual(word_fault(table, notes), places[0] if places else None)

    def test_one_and_several_faults(self):
        table = Table(2, 3, [(0, 0, 0)])
        self.assertIsNone(word_fault(table, [0] * 300))
        self.assertIsNone(word_fault(table, [1, 1]))
        for place in range(300):
            self.assertEqual(word_fault(table, [0] * place + [1] + [0] * (299 - place)), max(0, min(place - 2, 297)))
        self.assertEqual(word_fault(table, [0, 0, 0, 0, 1, 0, 1, 1]), 2)


class Longest(unittest.TestCase):
    def test_against_counts(self):
        bounded = set()
        for table in small_tables() + every(2, 3) + every(2, 2):
            told = longest(table)
            if told is None:
                self.assertGreater(count(table, 300), 0)
                continue
            length, word = told
            bounded.add((length, table.voices()))
            self.assertIsInstance(told, tuple)
            self.assertGreaterEqual(length, table.voices() - 1)
            self.assertGreater(count(table, length), 0)
            self.assertEqual(count(table, length + 1), 0)
            if table.notes() ** length <= TRIED:
                self.assertEqual(word, all_words(table, length)[0])
            self.assertEqual(word, first_word(table, length))
        self.assertGreater(len(bounded), 9)

    def test_written_down(self):
        self.assertEqual(longest(Table(2, 2, [])), (1, [0]))
        self.assertEqual(longest(Table(2, 4, [])), (3, [0, 0, 0]))
        self.assertEqual(longest(Table(4, 2, [(3, 2), (2, 1), (1, 0)])), (4, [3, 2, 1, 0]))
        self.assertEqual(longest(rising_table(4, 2)), (4, [0, 1, 2, 3]))
        self.assertEqual(longest(rising_table(4, 4)), (4, [0, 1, 2, 3]))
        self.assertEqual(longest(rising_table(3, 4)), (3, [0, 0, 0]))
        self.assertEqual(longest(Table(2, 3, [(0, 1, 1), (1, 1, 0)])), (4, [0, 1, 1, 0]))
        self.assertIsNone(longest(Table(1, 2, [(0, 0)])))
        self.assertIsNone(longest(Table(2, 2, [(0, 1), (1, 0)])))

    def test_words_as_long_as_they_get(self):
        for table in (ending("longest", 4, 4), ending("longest", 3, 3), ending("longest", 2, 4)):
            length, word = longest(table)
            self.assertGreater(length, table.voices() + 3)
            self.assertTrue(is_word(table, word))
            self.assertEqual((count(table, length) > 0, count(table, length + 1)), (True, 0))
            self.assertEqual(word, first_word(table, length))


class Needless(unittest.TestCase):
    def test_against_all_words(self):
        for table, length, words in short_words():
            voices = table.voices()
            used = {tuple(word[at:at + voices]) for word in words for at in range(length - voices + 1)}
            told = [chord for chord in table.allowed() if chord not in used]
            self.assertEqual(needless(table, length), told, (table.allowed(), length))
            if length < voices:
                self.assertEqual(needless(table, length), table.allowed())

    def test_longer_lengths_against_counts(self):
        for table in every(2, 3)[::5] + drawn("needless", 3, 2, 10):
            for length in (9, 14, 40):
                told = [chord for chord in table.allowed() if not any(
                    count(table, length, [(at + place, note) for place, note in enumerate(chord)])
                    for at in range(length - table.voices() + 1))]
                self.assertEqual(needless(table, length), told, (table.allowed(), length))

    def test_written_down(self):
        table = Table(3, 2, [(0, 1), (1, 2), (0, 0)])
        self.assertEqual(needless(table, 0), [(0, 0), (0, 1), (1, 2)])
        self.assertEqual(needless(table, 1), [(0, 0), (0, 1), (1, 2)])
        self.assertEqual(needless(table, 300), [])
        self.assertEqual(needless(Table(3, 2, [(0, 1), (1, 2), (2, 0)]), 300), [])
        self.assertEqual(needless(Table(4, 2, [(0, 1), (1, 2), (3, 3)]), 4), [(0, 1), (1, 2)])
        self.assertEqual(needless(Table(4, 2, [(0, 1), (1, 2), (3, 3)]), 3), [])


if __name__ == "__main__":
    unittest.main()
