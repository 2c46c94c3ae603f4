"""Points 33 to 38: tunes told whole, against all tunes tried."""

import functools
import itertools
import random
import unittest

from leadbeats.canons import Canon
from leadbeats.counts import as_number, longest_tune
from leadbeats.errors import BadTune, NoNumber, TooMany
from leadbeats.tables import Table
from leadbeats.tunes import (all_tunes, fault, first_note, goes_on, last_note, mended, next_notes, tune_at,
                             tune_number)
from tests.trials import (all_lists, drawn, ending, fits, fitting_tunes, full_table, furthest, many_tunes,
                          rising_table, small_tables, tuned_numbers, tuned_tables)
from tests.walks import leads, small_numbers, walk, within

TRIED = 270


@functools.cache
def small_tunes():
    """Canons, tables and lengths with all fitting tunes: the numbers, the table, n and the tunes."""
    return [(numbers, table, n, fitting_tunes(numbers, table, n))
            for numbers, table in itertools.product(tuned_numbers(), tuned_tables())
            for n in (0, 1, 2, 4, 5, 8) if table.notes() ** n <= TRIED]


def some_of(things, many, seed):
    """So many of some things, the same ones each time, in their order."""
    chance = random.Random(str(seed))
    places = sorted(chance.sample(range(len(things)), min(many, len(things))))
    return [(place, things[place]) for place in places]


def first_clash(numbers, table, tune):
    """The first moment at which notes may not sound, and the beats: moment by moment."""
    onward = leads(numbers, len(tune))
    for moment, beat in enumerate(sorted(onward)):
        beats = [beat]
        while len(beats) < table.voices() and onward.get(beats[-1], len(tune)) < len(tune):
            beats.append(onward[beats[-1]])
        if len(beats) == table.voices() and tuple(tune[sung] for sung in beats) not in table.allowed():
            return (moment, tuple(beats))
    return None


class Faults(unittest.TestCase):
    def test_each_moment_tried(self):
        for numbers, table in itertools.product(tuned_numbers(), tuned_tables()):
            canon = Canon(*numbers)
            for n in (0, 1, 2, 3, 5, 8):
                tunes = all_lists(table.notes(), n) if table.notes() ** n <= TRIED else []
                for place, tune in some_of(tunes, 40, (numbers, n)):
                    told = fault(canon, table, tune)
                    self.assertEqual(told, first_clash(numbers, table, tune))
                    self.assertEqual(told is None, fits(numbers, table, tune))

    def test_longer_tunes(self):
        chance = random.Random(9)
        seen = set()
        for numbers in small_numbers()[::9]:
            for table in small_tables()[::7]:
                tune = [chance.randrange(table.notes()) for beat in range(chance.randrange(70))]
                told = fault(Canon(*numbers), table, tune)
                self.assertEqual(told, first_clash(numbers, table, tune))
                self.assertEqual(told is None, fits(numbers, table, tune))
                seen.add(told if told is None else (told[0] > 2, len(told[1])))
        self.assertEqual(len(seen), 7)

    def test_the_loop(self):
        canon = Canon(1, 3, 2, 0)
        self.assertEqual(fault(canon, Table(2, 3, [(0, 0, 0)]), [0, 0, 0, 0, 0, 0, 1]), (3, (6, 6, 6)))
        self.assertIsNone(fault(canon, Table(2, 3, [(0, 0, 0)]), [0, 0, 0, 0, 0, 0, 0]))
        self.assertIsNone(fault(canon, Table(2, 3, [(0, 0, 0)]), [0, 0, 0, 0, 0, 0]))
        self.assertEqual(fault(Canon(1, 0, 2, 0), Table(1, 4, []), [0]), (0, (0, 0, 0, 0)))

    def test_written_down(self):
        # Beat 3 is led to 0, 4 to 2, and 5 to 4.
        canon, table = Canon(1, 3, 2, 0), Table(2, 2, [(0, 1), (1, 0), (0, 0)])
        self.assertEqual(fault(canon, table, [1, 0, 1, 1, 1, 1]), (0, (3, 0)))
        self.assertEqual(fault(canon, table, [1, 0, 1, 0, 1, 1]), (1, (4, 2)))
        self.assertEqual(fault(canon, table, [1, 0, 0, 0, 1, 1]), (2, (5, 4)))
        self.assertIsNone(fault(tune=[1, 0, 0, 0, 1, 0], table=table, canon=canon))
        self.assertEqual(fault(canon, Table(2, 3, []), [0, 0, 0, 0, 0, 0]), (2, (5, 4, 2)))
        self.assertIsNone(fault(canon, Table(2, 3, []), [0, 0, 0, 0, 0]))

    def test_three_hundred_notes(self):
        canon, table = Canon(1, 0, 2, 0), Table(2, 2, [(0, 0), (0, 1), (1, 0)])
        self.assertIsNone(fault(canon, table, [0] * 300))
        self.assertEqual(fault(canon, table, [0] * 149 + [1] * 151), (149, (149, 298)))


class OuterNotes(unittest.TestCase):
    def test_every_beat(self):
        for numbers, table, n, tunes in small_tunes():
            canon = Canon(*numbers)
            told = [first_note(canon, table, n, beat) for beat in range(n)]
            self.assertEqual(told, tunes[0] if tunes else [None] * n, (numbers, table.allowed(), n))
            told = [last_note(canon, table, n, beat) for beat in range(n)]
            self.assertEqual(told, tunes[-1] if tunes else [None] * n, (numbers, table.allowed(), n))

    def test_longer_tunes(self):
        for numbers in small_numbers()[::83]:
            canon = Canon(*numbers)
            for table in small_tables()[::9]:
                for n in (13, 41):
                    many = as_number(canon, table, n)
                    told = [first_note(canon, table, n, beat) for beat in range(n)]
                    self.assertEqual(told, tune_at(canon, table, n, 0) if many else [None] * n)
                    told = [last_note(canon, table, n, beat) for beat in range(n)]
                    self.assertEqual(told, tune_at(canon, table, n, many - 1) if many else [None] * n)

    def test_a_falling_row_is_read_from_its_end(self):
        # The row is [11, 10, 8, 4]; its first word would be 0, 0, 1, 2, but beat 4 is told ahead.
        canon, table = Canon(1, 6, 2, 0), Table(3, 2, [(0, 0), (0, 1), (1, 2), (2, 0)])
        self.assertEqual([first_note(canon, table, 12, beat) for beat in (4, 8, 10, 11)], [0, 0, 0, 0])
        self.assertEqual([last_note(canon, table, 12, beat) for beat in (4, 8, 10, 11)], [2, 1, 0, 2])
        table = Table(3, 2, [(0, 1), (1, 2), (2, 0), (0, 2)])
        self.assertEqual([first_note(canon, table, 12, beat) for beat in (4, 8, 10, 11)], [0, 2, 0, 2])
        self.assertEqual([last_note(canon, table, 12, beat) for beat in (4, 8, 10, 11)], [2, 1, 0, 2])
        self.assertEqual(first_note(beat=8, n=12, table=table, canon=canon), 2)
        self.assertEqual(last_note(beat=8, n=12, table=table, canon=canon), 1)

    def test_the_loop(self):
        canon, table = Canon(1, 0, 2, 0), Table(4, 2, [(1, 1), (2, 2), (0, 3)])
        self.assertEqual((first_note(canon, table, 1, 0), last_note(canon, table, 1, 0)), (1, 2))


class AllTunes(unittest.TestCase):
    def test_against_all_tried(self):
        for numbers, table, n, tunes in small_tunes():
            self.assertEqual(all_tunes(Canon(*numbers), table, n), tunes)

    def test_four_hundred_and_more(self):
        seen = {}
        for numbers in small_numbers()[::11] + tuned_numbers():
            for table in drawn("all", 4, 2, 5) + drawn("all", 3, 2, 5) + drawn("all", 2, 3, 4) + [full_table(4, 2)]:
                for n in range(4, 9):
                    many = many_tunes(numbers, table, n)
                    if 300 < many < 520:
                        seen[many] = (numbers, table, n)
        self.assertTrue(min(seen) <= 400 < max(seen))
        for many, (numbers, table, n) in seen.items():
            if many > 400:
                self.refused(numbers, table, n)
            else:
                told = all_tunes(Canon(*numbers), table, n)
                self.assertEqual(len(told), many)
                self.assertEqual(told, sorted(told))
                self.assertTrue(all(fits(numbers, table, tune) for tune in told))
                self.assertEqual(len(set(map(tuple, told))), many)

    def test_just_four_hundred(self):
        # Two rows of two beats with five words each, and two beats alone with four notes each.
        self.assertEqual(walk((3, 0, 4, 1), 6), ([[0, 1], [2], [3, 5], [4]], None))
        table = Table(4, 2, [(0, 1), (1, 2), (2, 3), (3, 0), (3, 1)])
        canon = Canon(3, 0, 4, 1)
        self.assertEqual(len(all_tunes(n=6, table=table, canon=canon)), 400)
        more = Table(4, 2, table.allowed() + [(2, 2)])
        self.refused((3, 0, 4, 1), more, 6)

    def refused(self, numbers, table, n):
        with self.assertRaises(TooMany) as caught:
            all_tunes(Canon(*numbers), table, n)
        self.assertEqual(caught.exception.many, 400)

    def test_the_longest(self):
        with within(10):
            canon = Canon(1, 0, 2, 0)
            self.assertEqual(all_tunes(canon, Table(1, 2, [(0, 0)]), 300), [[0] * 300])
            self.assertEqual(all_tunes(canon, Table(1, 2, []), 300), [])
            self.assertEqual(all_tunes(canon, Table(4, 2, []), 300), [])
            # What bars all tunes comes late: beat 100 is led to beat 110.
            self.assertEqual(all_tunes(Canon(200, 100, 201, 110), Table(4, 2, []), 300), [])
            self.refused((1, 0, 2, 0), full_table(2, 2), 300)


class NumberedTunes(unittest.TestCase):
    def test_every_number_and_back(self):
        for numbers, table, n, tunes in small_tunes():
            canon = Canon(*numbers)
            for number, tune in some_of(tunes, 9, (numbers, n)):
                self.assertEqual(tune_at(canon, table, n, number), tune)
                self.assertEqual(tune_number(canon, table, tune), number)
            with self.assertRaises(NoNumber) as caught:
                tune_at(canon, table, n, len(tunes))
            self.assertEqual(caught.exception.number, len(tunes))

    def test_every_number_of_some(self):
        for numbers, table, n, tunes in small_tunes()[::13]:
            canon = Canon(*numbers)
            self.assertEqual([tune_at(canon, table, n, number) for number in range(len(tunes))], tunes)
            self.assertEqual([tune_number(canon, table, tune) for tune in tunes], list(range(len(tunes))))

    def test_long_tunes(self):
        with within(30):
            for numbers in small_numbers()[::53]:
                canon = Canon(*numbers)
                for table in drawn("at", 3, 2, 2) + drawn("at", 2, 3, 2) + [full_table(4, 4)]:
                    many = as_number(canon, table, 300)
                    for number in sorted({at for at in (0, many // 3, many // 2, many - 1) if 0 <= at < many}):
                        tune = tune_at(canon, table, 300, number)
                        self.assertTrue(len(tune) == 300 and fits(numbers, table, tune))
                        self.assertEqual(tune_number(canon, table, tune), number)
                    near = [tune_at(canon, table, 300, number) for number in range(many // 2, min(many, many // 2 + 4))]
                    self.assertEqual(near, sorted(near))

    def test_by_names(self):
        canon, table = Canon(1, 0, 2, 1), Table(2, 2, [(0, 1), (1, 0)])
        self.assertEqual(tune_at(number=2, n=3, table=table, canon=canon), [1, 0, 0])
        self.assertEqual(tune_number(tune=[1, 0, 0], table=table, canon=canon), 2)


class Mended(unittest.TestCase):
    def test_against_all_tunes(self):
        for numbers, table, n, tunes in small_tunes():
            canon = Canon(*numbers)
            for place, tune in some_of(all_lists(table.notes(), n), 12, (numbers, n)):
                changes = [(sum(one != other for one, other in zip(tune, told)), told) for told in tunes]
                told = mended(canon, table, tune)
                self.assertEqual(told, min(changes) if changes else None, (numbers, table.allowed(), tune))
                if fits(numbers, table, tune):
                    self.assertEqual(told, (0, tune))

    def test_long_tunes(self):
        chance = random.Random(3)
        with within(30):
            for numbers in small_numbers()[::41]:
                canon = Canon(*numbers)
                for table in drawn("mended", 3, 3, 2) + drawn("mended", 2, 4, 2):
                    tune = [chance.randrange(table.notes()) for beat in range(300)]
                    told = mended(canon, table, tune)
                    if told is None:
                        self.assertEqual(as_number(canon, table, 300), 0)
                        continue
                    many, other = told
                    self.assertTrue(fits(numbers, table, other))
                    self.assertEqual(sum(one != two for one, two in zip(tune, other)), many)
                    self.assertEqual(mended(canon, table, other), (0, other))

    def test_written_down(self):
        # The rows are [0, 1, 3] and [2]; of [0, 1] either note may be changed, and the first tune is told.
        canon, table = Canon(1, 0, 2, 1), Table(2, 2, [(0, 1), (1, 0)])
        self.assertEqual(mended(canon, table, [0, 0, 1, 1]), (1, [1, 0, 1, 1]))
        self.assertEqual(mended(canon, table, [0, 0, 1, 0]), (1, [0, 1, 1, 0]))
        self.assertEqual(mended(tune=[1, 1, 0], table=table, canon=canon), (1, [0, 1, 0]))
        self.assertIsNone(mended(Canon(1, 0, 2, 0), table, [1, 1, 0]))
        self.assertEqual(mended(Canon(1, 0, 2, 0), table, []), (0, []))


class GoingOn(unittest.TestCase):
    def test_next_notes(self):
        seen = set()
        for numbers, table, n, tunes in small_tunes():
            canon = Canon(*numbers)
            for place, tune in some_of(tunes, 12, (numbers, n)):
                told = [note for note in range(table.notes()) if fits(numbers, table, tune + [note])]
                self.assertEqual(next_notes(canon, table, tune), told, (numbers, table.allowed(), tune))
                seen.add(len(told))
                self.assertEqual(goes_on(canon, table, tune) == n, told == [])
        self.assertEqual(seen, {0, 1, 2, 3})

    def test_goes_on_against_longer_tunes(self):
        bound = 45
        seen = set()
        tables = [ending("on", 2, 3), ending("on", 3, 2), ending("on", 2, 4), rising_table(4, 2), rising_table(4, 3),
                  Table(3, 2, [(0, 1), (1, 2), (2, 2)]), Table(2, 2, []), Table(2, 3, []), *drawn("on", 3, 2, 4),
                  *drawn("on", 2, 3, 4), *drawn("on", 3, 3, 2), Table(2, 2, [(0, 1), (1, 0)])]
        for numbers in small_numbers()[::83] + tuned_numbers():
            canon = Canon(*numbers)
            for table in tables:
                for n in (0, 1, 3, 7, 12):
                    many = as_number(canon, table, n)
                    for number in sorted({at for at in (0, many // 2, many - 1) if 0 <= at < many}):
                        tune = tune_at(canon, table, n, number)
                        told = goes_on(canon, table, tune)
                        known = furthest(numbers, table, tune, bound)
                        self.assertTrue(told == known or known == bound and (told is None or told > bound),
                                        (numbers, table.allowed(), tune, told, known))
                        seen.add((told is None, known == bound, known == n))
        self.assertEqual(len(seen), 4)

    def test_of_no_notes_it_is_the_longest_tune(self):
        for numbers in small_numbers()[::17]:
            for table in tuned_tables() + [ending("on", 4, 4), ending("on", 3, 4), rising_table(4, 4)]:
                told = longest_tune(Canon(*numbers), table)
                self.assertEqual(goes_on(Canon(*numbers), table, []), None if told is None else told[0])

    def test_written_down(self):
        canon, table = Canon(1, 0, 2, 1), Table(3, 2, [(0, 1), (1, 2), (2, 2)])
        self.assertEqual(next_notes(canon, table, [0]), [1])
        self.assertEqual(next_notes(canon, table, [0, 1]), [0, 1, 2])
        self.assertIsNone(goes_on(canon, table, [0]))
        table = Table(3, 2, [(0, 1), (1, 2)])
        # Beats 0, 1, 3 and 7 are a row: begun with 0, 1 it can't have beat 7, begun with 2 it can't have beat 1.
        self.assertEqual(goes_on(canon, table, [0, 1]), 7)
        self.assertEqual(goes_on(canon, table, [1]), 3)
        self.assertEqual(goes_on(canon, table, [2]), 1)
        # Behind beat 2, of note 2, beat 5 can have none.
        self.assertEqual(goes_on(canon, table, [0, 1, 2]), 5)
        self.assertEqual(next_notes(tune=[2], table=table, canon=canon), [])
        self.assertEqual(goes_on(tune=[2], table=table, canon=canon), 1)

    def test_behind_three_hundred_notes(self):
        canon, table = Canon(1, 0, 2, 0), Table(2, 2, [(0, 0), (0, 1)])
        self.assertEqual(next_notes(canon, table, [0] * 300), [0, 1])
        self.assertEqual(goes_on(canon, table, [0] * 150 + [1] * 150), 300)
        self.assertEqual(next_notes(canon, table, [0] * 150 + [1] * 150), [])
        self.assertIsNone(goes_on(canon, table, [0] * 300))
        self.assertEqual(goes_on(canon, table, [0] * 299 + [1]), 598)

    def test_a_tune_that_does_not_fit(self):
        for numbers, table, n, tunes in small_tunes():
            for place, tune in some_of([tune for tune in all_lists(table.notes(), n) if tune not in tunes], 2, n):
                for ask in (tune_number, next_notes, goes_on):
                    with self.assertRaises(BadTune) as caught:
                        ask(Canon(*numbers), table, tune)
                    self.assertEqual(caught.exception.at, n)


class TakenAlone(unittest.TestCase):
    def test_each_k_th_beat_where_both_entries_are_0(self):
        for numbers in ((1, 0, 2, 0), (1, 0, 3, 0), (2, 0, 3, 0), (2, 0, 4, 0), (3, 0, 4, 0), (2, 0, 6, 0)):
            canon = Canon(*numbers)
            for table in drawn("alone", 3, 2, 4) + drawn("alone", 2, 3, 4) + [Table(2, 2, [(0, 0), (0, 1), (1, 0)])]:
                for n in (1, 10, 50):
                    many = as_number(canon, table, n)
                    for number in sorted({at for at in (0, many // 3, many - 1) if 0 <= at < many}):
                        tune = tune_at(canon, table, n, number)
                        for k in range(1, 8):
                            self.assertIsNone(fault(canon, table, tune[::k]))


if __name__ == "__main__":
    unittest.main()
