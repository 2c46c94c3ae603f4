"""Points 3 and 39 to 48 for numbers of thirty figures, with forty heard notes too, all of them told at once."""

import random
import unittest

from leadbeats.canons import Canon
from leadbeats.counts import bar, longest_tune
from leadbeats.efforts import least_effort, least_note, least_word
from leadbeats.heard import clash_of, is_clash, least_heard, many_heard, may_have, surely
from leadbeats.rows import row, row_at, rows
from leadbeats.tables import Table, turned
from tests.trials import count, drawn, ending, full_table, loop_notes, rising_table
from tests.walks import GREAT, great_numbers, great_row, within

N = 9 * GREAT + 12345


def great_tables():
    """Tables up to the greatest, by which tunes fit, or hardly."""
    return [full_table(4, 4), Table(2, 2, [(0, 0), (0, 1), (1, 0)]), Table(4, 2, [(0, 0), (0, 1), (1, 2), (2, 3), (3, 0)]),
            *drawn("great", 3, 3, 2), drawn("heard", 4, 4, 3)[1], ending("great", 4, 4), rising_table(4, 3)]


def some_beats(chance, canon, n, many):
    """Beats of a tune of n beats: of long rows several, of others one, and the loop."""
    told = [canon.loop()] if canon.loop() is not None and canon.loop() < n else []
    for length, rows_of_it in rows(canon, n)[::-3]:
        first = row_at(canon, n, length, chance.randrange(rows_of_it))
        told += chance.sample(great_row(canon.numbers(), n, first), min(length, 3))
    told += [0, n - 1, canon.b, canon.d] + [chance.randrange(n) for again in range(many)]
    return [beat for beat in dict.fromkeys(told) if beat < n][:many]


def parted(canon, n, heard):
    """The rows on which something is heard, with it: a dict of sorted (place, note) by (first, length), loops of 0."""
    told = {}
    for beat, note in heard:
        first, place, length = row(canon, n, beat)
        told.setdefault((first, length or 0), []).append((place, note))
    return {key: sorted(known) for key, known in told.items()}


def row_words(table, length, known):
    """How many words a row has with known notes, how many notes a loop."""
    if length == 0:
        return len([note for note in loop_notes(table) if known in ([], [(0, note)])])
    return count(table, length, known)


class GreatHeard(unittest.TestCase):
    def cases(self):
        """Canons and tables with forty heard notes and fewer, some of which clash."""
        for number, numbers in enumerate(great_numbers()):
            canon = Canon(*numbers)
            for at, table in enumerate(great_tables()):
                chance = random.Random(f"{number} {at}")
                n = (N, GREAT)[(number + at) % 2]
                beats = some_beats(chance, canon, n, 40)
                heard = [(beat, chance.choice((0, chance.randrange(table.notes())))) for beat in beats]
                for told in (heard, heard[:2], heard[:5]):
                    yield numbers, canon, table, n, told

    def test_counts_notes_and_clashes(self):
        seen = set()
        with within(100):
            for numbers, canon, table, n, heard in self.cases():
                parts = parted(canon, n, heard)
                fits = bar(canon, table, n) is None and all(
                    row_words(table, length, known) > 0 for (first, length), known in parts.items())
                clash = clash_of(canon, table, n, heard)
                self.assertEqual(clash is None, fits)
                self.assertEqual(surely(canon, table, n, heard) is None, not fits)
                seen.add((fits, len(heard) == 40))
                if fits:
                    self.counted(canon, table, n, heard, parts)
                    self.assertIsNone(least_heard(canon, table, n, heard))
                    continue
                self.assertEqual(many_heard(canon, table, n, heard), [])
                self.assertEqual(may_have(canon, table, n, heard, n // 2), [])
                self.assertIs(is_clash(canon, table, n, heard, clash), True)
                self.assertIs(is_clash(canon, table, n, heard, (clash[0] + 1, *clash[1:])), False)
                self.assertEqual(clash[2], parts.get(clash[:2], []))
                self.least(canon, table, n, heard)
        self.assertEqual(len(seen), 4)

    def counted(self, canon, table, n, heard, parts):
        """Compare the bases and exponents."""
        wanted = {}
        lengths = rows(canon, n) + ([(0, 1)] if canon.loop() is not None and canon.loop() < n else [])
        for length, many in lengths:
            base = row_words(table, length, [])
            wanted[base] = wanted.get(base, 0) + many - len([key for key in parts if key[1] == length])
        for (first, length), known in parts.items():
            base = row_words(table, length, known)
            wanted[base] = wanted.get(base, 0) + 1
        told = sorted((base, exponent) for base, exponent in wanted.items() if base > 1 and exponent) or [(1, 1)]
        self.assertEqual(many_heard(canon, table, n, heard), told)

    def least(self, canon, table, n, heard):
        """See that the fewest heard notes bar all tunes, and none of them can be left out."""
        told = least_heard(canon, table, n, heard)
        self.assertEqual(told == [], bar(canon, table, n) is not None)
        chosen = [heard[at] for at in told]
        self.assertIsNotNone(clash_of(canon, table, n, chosen))
        self.assertLessEqual(len(parted(canon, n, chosen)), 1)
        for at in range(len(chosen)):
            self.assertIsNone(clash_of(canon, table, n, chosen[:at] + chosen[at + 1:]))

    def test_notes_of_beats(self):
        seen = set()
        with within(60):
            for numbers, canon, table, n, heard in self.cases():
                parts = parted(canon, n, heard)
                if len(heard) != 5 or many_heard(canon, table, n, heard) == []:
                    continue
                sure = surely(canon, table, n, heard)
                self.assertEqual(sure, sorted(sure))
                beats = {}
                for (first, length), known in parts.items():
                    for place, beat in enumerate(great_row(numbers, n, first) if length else [first]):
                        beats[beat] = (length, known, place)
                for beat, (length, known, place) in list(beats.items())[::13]:
                    others = [pair for pair in known if pair[0] != place]
                    notes = [note for note in range(table.notes()) if dict(known).get(place, note) == note
                             and row_words(table, length, sorted(others + [(place, note)])) > 0]
                    self.assertEqual(may_have(canon, table, n, heard, beat), notes)
                    self.assertEqual([note for other, note in sure if other == beat], notes if len(notes) == 1 else [])
                    seen.add((len(notes), len(known)))
                self.assertTrue({beat for beat, note in sure} <= set(beats))
        self.assertGreater(len(seen), 6)

    def test_written_down(self):
        with within(10):
            canon, table, n = Canon(1, 0, 2, 0), Table(3, 2, [(0, 1), (1, 0), (2, 2)]), 2 ** 99
            # Beats 2 ** power are a row, in which notes take turns or all are 2.
            self.assertEqual(may_have(canon, table, n, [(2 ** 50, 0)], 2 ** 97), [1])
            self.assertEqual(may_have(canon, table, n, [], 2 ** 97), [0, 1, 2])
            self.assertEqual(surely(canon, table, n, [(2 ** 50, 0)]), [(2 ** power, power % 2) for power in range(99)])
            self.assertEqual(clash_of(canon, table, n, [(2 ** 50, 0), (3 * 2 ** 50, 0), (2 ** 97, 0)]),
                             (1, 99, [(50, 0), (97, 0)]))
            self.assertEqual(least_heard(canon, table, n, [(2 ** 50, 0), (3 * 2 ** 50, 0), (2 ** 97, 0), (7, 1)]), [0, 2])
            heard = [(3 ** power, 2) for power in range(40)]
            told = many_heard(canon, table, n, heard)
            # Rows begin with odd beats; each has three words, or just one where 2 is heard in it; the loop has note 2.
            self.assertEqual(told, [(3, n // 2 - 40)])

    def test_what_was_told_may_be_handed_in_again(self):
        with within(20):
            table = ending("great", 4, 4)
            canon = Canon(GREAT + 7, 3, 9 * GREAT + 1, 8)
            n, barred = longest_tune(canon, table)
            self.assertEqual(clash_of(canon, table, n + 1, [(7, 0)]), (barred[1], barred[2], []))
            self.assertEqual(least_heard(canon, table, n + 1, [(7, 0)]), [])
            self.assertIsNone(clash_of(canon, table, n, [(n - 1, may_have(canon, table, n, [], n - 1)[0])]))
            self.assertIsNotNone(least_effort(canon, table, [1, 2, 3, 4], n))
            self.assertIsNone(least_effort(canon, table, [1, 2, 3, 4], n + 1))


class GreatEfforts(unittest.TestCase):
    def setUp(self):
        self.known = {}

    def test_by_rows(self):
        seen = set()
        with within(100):
            for numbers, canon, table, n, heard in GreatHeard().cases():
                chance = random.Random(len(heard))
                prices = [chance.choice((0, 1, 2, 7, 10 ** 9)) for note in range(table.notes())]
                told = least_effort(canon, table, prices, n, heard=heard)
                self.assertEqual(told is None, clash_of(canon, table, n, heard) is not None)
                seen.add((told is None, len(heard) == 40))
                if told is None:
                    self.assertIsNone(least_note(canon, table, prices, n, n - 1, heard=heard))
                    continue
                parts = parted(canon, n, heard)
                wanted = sum(self.least(table, prices, length, known) for (first, length), known in parts.items())
                lengths = rows(canon, n) + ([(0, 1)] if canon.loop() is not None and canon.loop() < n else [])
                for length, many in lengths:
                    left = many - len([key for key in parts if key[1] == length])
                    wanted += left * self.unheard(table, prices, length)
                self.assertEqual(told, wanted)
        self.assertEqual(len(seen), 4)

    def unheard(self, table, prices, length):
        """The least effort of a row or a loop on which nothing is heard, worked out once."""
        key = (tuple(table.allowed()), tuple(prices), table.voices(), length)
        if key not in self.known:
            self.known[key] = self.least(table, prices, length, [])
        return self.known[key]

    def least(self, table, prices, length, known):
        """The least effort of a row or a loop."""
        if length == 0:
            return min(prices[note] for note in loop_notes(table) if known in ([], [(0, note)]))
        return least_word(table, prices, length, known=known)[0]

    def test_notes(self):
        seen = set()
        with within(100):
            for numbers, canon, table, n, heard in GreatHeard().cases():
                if len(heard) != 5 or clash_of(canon, table, n, heard) is not None:
                    continue
                prices = [note % 2 for note in range(table.notes())]
                for beat in [heard[-1][0], n - 1]:
                    told = least_note(canon, table, prices, n, beat, heard=heard)
                    if canon.loop() == beat:
                        notes = [dict(heard)[beat]] if beat in dict(heard) else loop_notes(table)
                        self.assertEqual(told, min((prices[note], note) for note in notes)[1])
                        continue
                    beats = great_row(numbers, n, beat)
                    falls = beats[0] > beats[-1]
                    rising = sorted(beats)
                    known = [(rising.index(other), note) for other, note in heard if other in beats]
                    word = least_word(turned(table) if falls else table, prices, len(beats), known=known)[1]
                    self.assertEqual(told, word[rising.index(beat)])
                    seen.add((falls, len(beats) > 2))
        self.assertEqual(len(seen), 4)

    def test_written_down(self):
        with within(5):
            canon, table, n = Canon(1, 0, 2, 0), Table(3, 2, [(0, 1), (1, 0), (2, 2)]), 2 ** 99
            # Half of a row of even length is 0, and of one of odd length one note more or less; the loop is 2.
            many = dict(rows(canon, n))
            least = sum(rows_of_it * (length // 2) for length, rows_of_it in many.items())
            self.assertEqual(least_effort(canon, table, [0, 1, 9], n), least + 9)
            self.assertEqual(least_note(canon, table, [0, 1, 9], n, 2 ** 98), 0)
            self.assertEqual(least_note(canon, table, [1, 0, 9], n, 2 ** 98), 1)
            self.assertEqual(least_note(canon, table, [9, 9, 8], n, 2 ** 98), 2)
            self.assertEqual(least_note(canon, table, [9, 9, 8], n, 2 ** 98, heard=[(1, 0)]), 0)
            self.assertEqual(least_effort(canon, full_table(4, 4), [10 ** 9] * 4, N), N * 10 ** 9)


if __name__ == "__main__":
    unittest.main()
