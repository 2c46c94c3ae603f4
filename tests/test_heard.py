"""Points 39 to 44: heard notes, against all tunes tried and against words counted row by row."""

import functools
import itertools
import random
import unittest
from math import prod

from leadbeats.canons import Canon
from leadbeats.counts import fitting
from leadbeats.heard import clash_of, is_clash, least_heard, many_heard, may_have, surely
from leadbeats.tables import Table
from tests.trials import (all_lists, count, drawn, ending, fitting_tunes, full_table, loop_notes, rising_table,
                          tuned_numbers, tuned_tables, walked)
from tests.walks import small_numbers, within

TRIED = 256


@functools.cache
def tried():
    """Canons, tables and lengths with all fitting tunes: the numbers, the table, n and the tunes."""
    return [(numbers, table, n, fitting_tunes(numbers, table, n))
            for numbers, table in itertools.product(tuned_numbers(), tuned_tables())
            for n in (0, 1, 2, 4, 5, 8) if table.notes() ** n <= TRIED]


def heard_of(chance, table, n, tunes):
    """Some heard notes: nothing, some or all, of a tune that fits, of one with a note otherwise, or of any notes."""
    many = chance.choice((0, n, chance.randint(0, n), chance.randint(0, n)))
    kind = chance.randrange(3)
    tune = chance.choice(tunes) if tunes and kind < 2 else [chance.randrange(table.notes()) for beat in range(n)]
    heard = [(beat, tune[beat]) for beat in chance.sample(range(n), many)]
    if heard and kind == 1:
        heard[0] = (heard[0][0], chance.randrange(table.notes()))
    return heard


def with_heard(tunes, heard):
    """The tunes that have heard notes."""
    return [tune for tune in tunes if all(tune[beat] == note for beat, note in heard)]


def cases():
    """All that is tried, each with some heard notes, the same ones each time."""
    for number, (numbers, table, n, tunes) in enumerate(tried()):
        for again in range(3 if n else 1):
            heard = heard_of(random.Random(f"heard {number} {again}"), table, n, tunes)
            yield numbers, Canon(*numbers), table, n, tunes, heard, with_heard(tunes, heard)


def heard_rows(numbers, n, heard):
    """All rows with what is heard on them, and the loop as a row of length 0: a list of (beats, length, known)."""
    rows, loop = walked(numbers, n)
    notes = dict(heard)
    told = [(beats, len(beats)) for beats in rows] + ([([loop], 0)] if loop is not None else [])
    return [(beats, length, [(place, notes[beat]) for place, beat in enumerate(beats) if beat in notes])
            for beats, length in told]


def row_words(table, length, known):
    """How many words a row has with known notes, how many notes a loop."""
    if length == 0:
        return len([note for note in loop_notes(table) if known in ([], [(0, note)])])
    return count(table, length, known)


def fewest(table, numbers, n, heard):
    """The fewest heard notes by which none fits, all choices tried; None where one fits."""
    for many in range(len(heard) + 1):
        for places in itertools.combinations(range(len(heard)), many):
            chosen = [heard[at] for at in places]
            if any(row_words(table, length, known) == 0 for beats, length, known in heard_rows(numbers, n, chosen)):
                return list(places)
    return None


class AgainstAllTunes(unittest.TestCase):
    def test_many_heard(self):
        seen = set()
        for numbers, canon, table, n, tunes, heard, left in cases():
            told = many_heard(canon, table, n, heard)
            self.assertEqual(prod(base ** exponent for base, exponent in told) if told else 0, len(left))
            self.assertEqual(told == [(1, 1)], len(left) == 1)
            self.assertEqual(told, many_heard(canon, table, n, tuple(reversed(heard))))
            seen.add((min(len(left), 2), min(len(heard), 2), walked(numbers, n)[1] is None))
        self.assertEqual(len(seen), 18)

    def test_bases_and_exponents(self):
        for numbers, canon, table, n, tunes, heard, left in cases():
            bases = [row_words(table, length, known) for beats, length, known in heard_rows(numbers, n, heard)]
            wanted = sorted((base, bases.count(base)) for base in set(bases) if base > 1) or [(1, 1)]
            self.assertEqual(many_heard(canon, table, n, heard), [] if 0 in bases else wanted)

    def test_nothing_heard(self):
        for numbers, table, n, tunes in tried():
            canon = Canon(*numbers)
            for heard in ([], ()):
                self.assertEqual(many_heard(canon, table, n, heard), fitting(canon, table, n))
                self.assertEqual(surely(canon, table, n, heard), [] if tunes else None)
                self.assertEqual(least_heard(canon, table, n, heard), None if tunes else [])
                self.assertEqual(clash_of(canon, table, n, heard) is None, tunes != [])

    def test_may_have(self):
        for numbers, canon, table, n, tunes, heard, left in cases():
            for beat in range(n):
                told = sorted({tune[beat] for tune in left})
                self.assertEqual(may_have(canon, table, n, heard, beat), told, (numbers, table.allowed(), n, heard))

    def test_surely(self):
        seen = set()
        for numbers, canon, table, n, tunes, heard, left in cases():
            told = surely(canon, table, n, heard)
            if not left:
                self.assertIsNone(told)
                continue
            rows = [beats for beats, length, known in heard_rows(numbers, n, heard) if known]
            wanted = [(beat, left[0][beat]) for beat in sorted(sum(rows, []))
                      if len({tune[beat] for tune in left}) == 1]
            self.assertEqual(told, wanted, (numbers, table.allowed(), n, heard))
            seen.add((len(told) > len(heard), bool(heard)))
        self.assertEqual(seen, {(False, False), (False, True), (True, True)})

    def test_clashes(self):
        seen = set()
        for numbers, canon, table, n, tunes, heard, left in cases():
            told = clash_of(canon, table, n, heard)
            self.assertEqual(told is None, left != [])
            rows = {beats[0]: (length, known) for beats, length, known in heard_rows(numbers, n, heard)}
            if told is not None:
                first, length, known = told
                self.assertEqual(rows[first], (length, known))
                self.assertEqual(row_words(table, length, known), 0)
                seen.add((length == 0, known == []))
            # Every row is a clash just where it has no word with what is heard on it.
            for first, (length, known) in rows.items():
                self.assertIs(is_clash(canon, table, n, heard, (first, length, known)),
                              row_words(table, length, known) == 0)
        self.assertEqual(seen, {(False, False), (False, True), (True, False), (True, True)})

    def test_least_heard(self):
        seen = set()
        for numbers, canon, table, n, tunes, heard, left in cases():
            told = least_heard(canon, table, n, heard)
            self.assertEqual(told is None, left != [])
            self.assertEqual(told, fewest(table, numbers, n, heard), (numbers, table.allowed(), n, heard))
            if told is not None:
                self.assertEqual(with_heard(tunes, [heard[at] for at in told]), [])
                seen.add(len(told))
        self.assertTrue({0, 1, 2, 3} <= seen)


class LongRows(unittest.TestCase):
    """Rows of eight beats and more, rising and falling, and eight heard notes on one of them."""

    CANONS = (((1, 0, 2, 1), 300, 0), ((1, 129, 2, 0), 258, 257), ((1, 0, 2, 0), 270, 1))

    def tables(self):
        return (drawn("row", 2, 3, 6) + drawn("row", 3, 3, 4) + drawn("row", 2, 4, 6) + drawn("row", 4, 2, 2)
                + drawn("row", 3, 4, 3) + [Table(2, 2, [(0, 1), (1, 0), (1, 1)]), ending("row", 3, 3)])

    def cases(self):
        for numbers, n, first in self.CANONS:
            row = next(beats for beats in walked(numbers, n)[0] if beats[0] == first)
            for number, table in enumerate(self.tables()):
                for again in range(4):
                    chance = random.Random(f"long {numbers} {number} {again}")
                    heard = [(beat, chance.randrange(table.notes())) for beat in chance.sample(row, 8)]
                    yield numbers, Canon(*numbers), table, n, heard[:chance.choice((4, 8, 8))]

    def test_the_rows_are_long(self):
        for numbers, n, first in self.CANONS:
            self.assertGreaterEqual(max(len(beats) for beats in walked(numbers, n)[0] if beats[0] == first), 8)

    def test_least_heard_with_eight_on_one_row(self):
        seen = set()
        for numbers, canon, table, n, heard in self.cases():
            told = least_heard(canon, table, n, heard)
            self.assertEqual(told, fewest(table, numbers, n, heard), (numbers, table.allowed(), heard))
            seen.add(None if told is None else len(told))
        self.assertTrue({None, 0, 1, 2, 3} <= seen, seen)

    def test_the_rest(self):
        for numbers, canon, table, n, heard in self.cases():
            heard = heard[:3]
            rows = heard_rows(numbers, n, heard)
            fits = all(row_words(table, length, known) > 0 for beats, length, known in rows)
            self.assertEqual(many_heard(canon, table, n, heard) != [], fits)
            self.assertEqual(clash_of(canon, table, n, heard) is None, fits)
            wanted = []
            for beats, length, known in rows:
                # Of the rows without heard notes some are enough.
                for place, beat in enumerate(beats if known or beats[0] % 9 == 0 else []):
                    notes = [note for note in range(table.notes()) if fits and row_words(
                        table, length, sorted({*known, (place, note)})) > 0 and dict(known).get(place, note) == note]
                    if length:
                        self.assertEqual(may_have(canon, table, n, heard, beat), notes)
                    if known and len(notes) == 1:
                        wanted.append((beat, notes[0]))
            self.assertEqual(surely(canon, table, n, heard), sorted(wanted) if fits else None)

    def test_of_several_as_few_the_first_list(self):
        # Beats 0, 1 and 3 are a row, 2 and 5 are one: neighbours have unlike notes.
        canon, table = Canon(1, 0, 2, 1), Table(2, 2, [(0, 1), (1, 0)])
        heard = [(3, 1), (5, 0), (1, 1), (2, 0), (0, 1)]
        self.assertEqual(least_heard(canon, table, 6, heard), [0, 2])
        self.assertEqual(least_heard(canon, table, 6, heard[1:]), [0, 2])
        self.assertEqual(least_heard(canon, table, 6, [heard[1], heard[2], heard[4], heard[3]]), [0, 3])
        self.assertEqual(least_heard(canon, table, 6, heard[2:]), [0, 2])
        self.assertIsNone(least_heard(heard=heard[2:4], n=6, table=table, canon=canon))
        # A note that no word has where it is heard is fewer than two that clash.
        lone = Table(3, 2, [(0, 1), (1, 0)])
        self.assertEqual(least_heard(canon, lone, 6, heard + [(4, 2)]), [0, 2])
        self.assertEqual(least_heard(canon, lone, 10, heard + [(4, 2)]), [5])


class Clashes(unittest.TestCase):
    # Rows [0, 1, 3, 7], [2, 5], [4, 9], [6] and [8]; neighbours have unlike notes.
    CANON = Canon(1, 0, 2, 1)
    TABLE = Table(2, 2, [(0, 1), (1, 0)])
    HEARD = [(7, 1), (0, 1), (4, 0), (1, 0), (8, 1), (5, 1)]

    def told(self, thing, heard=None, canon=None, table=None, n=10):
        return is_clash(canon or self.CANON, table or self.TABLE, n, self.HEARD if heard is None else heard, thing)

    def test_what_is_told_is_let_by(self):
        clash = clash_of(self.CANON, self.TABLE, 10, self.HEARD)
        self.assertEqual(clash, (0, 4, [(0, 1), (1, 0), (3, 1)]))
        self.assertIs(self.told(clash), True)
        self.assertIs(is_clash(thing=clash, heard=self.HEARD, n=10, table=self.TABLE, canon=self.CANON), True)
        self.assertIs(self.told((0, 4, [(0, 1), (1, 0), (3, 1)]), tuple(self.HEARD)), True)

    def test_one_thing_otherwise(self):
        clash = (0, 4, [(0, 1), (1, 0), (3, 1)])
        for thing in (
                (1, 4, clash[2]), (3, 4, clash[2]), (2, 4, clash[2]), (2, 2, [(1, 1)]), (4, 2, [(0, 0)]), (6, 1, []),
                (8, 1, [(0, 1)]), (0, 3, clash[2]), (0, 5, clash[2]), (0, 0, clash[2]), (0, None, clash[2]),
                (0, 4, []), (0, 4, [(0, 1), (3, 1)]), (0, 4, [(0, 1), (1, 0)]), (0, 4, clash[2] + [(2, 1)]),
                (0, 4, clash[2] + [(3, 1)]), (0, 4, clash[2][::-1]), (0, 4, [(1, 0), (0, 1), (3, 1)]),
                (0, 4, [(0, 1), (1, 1), (3, 1)]), (0, 4, tuple(clash[2])), (0, 4, dict(clash[2])),
                (0, 4, [[0, 1], [1, 0], [3, 1]]), (0, 4, [(0, True), (1, 0), (3, 1)]),
                (0, 4, [(False, 1), (1, 0), (3, 1)]), (0, 4, [(0, 1), (True, 0), (3, 1)]),
                (False, 4, clash[2]), (0, True, clash[2]), ("0", 4, clash[2]), (0, "4", clash[2]), (0, 4, None),
                (0, 4, "01"), (0, 4), (0, 4, clash[2], 0), [0, 4, clash[2]], (), None, True, False, 0, -1, "", "clash",
                b"", [], {}, {0: 4}, object(), ((0, 4, clash[2]),), (10, 1, []), (11, 4, clash[2]), (-1, 4, clash[2]),
                (10 ** 40, 4, clash[2]), ([], {}, [[]]), (0, 4, [None, None, None]), (0, 4, [(), (), ()]),
                (0, 4, [(0, 1, 0), (1, 0), (3, 1)]), ((0,), 4, clash[2]), (0, [4], clash[2])):
            self.assertIs(self.told(thing), False, thing)

    def test_things_that_are_equal_to_all(self):
        class Alike:
            def __eq__(self, other):
                return True

        for thing in (Alike(), (Alike(), 4, []), (0, Alike(), []), (0, 4, Alike()), (0, 4, [Alike()] * 3),
                      (0, 4, [(Alike(), 1), (1, 0), (3, 1)]), (0, 4, [(0, 1), (1, Alike()), (3, 1)])):
            self.assertIs(self.told(thing), False)

    def test_rows_without_heard_notes(self):
        # Words have one note at most: all rows of more are clashes, heard or not.
        table = Table(2, 2, [])
        for heard, first, length, known in (([], 0, 4, []), ([], 2, 2, []), ([(5, 1)], 0, 4, []), ([(5, 1)], 4, 2, []),
                                            ([(5, 1)], 2, 2, [(1, 1)])):
            self.assertIs(self.told((first, length, known), heard, table=table), True)
        for heard, thing in (([], (6, 1, [])), ([], (8, 1, [])), ([(5, 1)], (2, 2, [])), ([], (0, 4, [(0, 1)])),
                             ([], (5, 2, [])), ([], (0, 4, None)), ([], (0, 4, ())), ([(6, 0)], (6, 1, [(0, 0)]))):
            self.assertIs(self.told(thing, heard, table=table), False)
        self.assertIs(self.told(clash_of(self.CANON, table, 10, []), [], table=table), True)
        self.assertEqual(least_heard(self.CANON, table, 10, [(5, 1)]), [])

    def test_the_loop(self):
        canon = Canon(1, 3, 2, 0)
        one = Table(2, 3, [(0, 0, 0)])
        self.assertEqual(clash_of(canon, one, 7, [(6, 1)]), (6, 0, [(0, 1)]))
        self.assertIs(self.told((6, 0, [(0, 1)]), [(6, 1)], canon, one, 7), True)
        for thing in ((6, 1, [(0, 1)]), (6, None, [(0, 1)]), (6, False, [(0, 1)]), (6, 0, []), (6, 0, [(6, 1)]),
                      (6, 0, [(0, 0)]), (6, 0, [(0, True)]), (5, 0, [(0, 1)]), (3, 0, [(0, 1)])):
            self.assertIs(self.told(thing, [(6, 1)], canon, one, 7), False, thing)
        self.assertIs(self.told((6, 0, [(0, 0)]), [(6, 0)], canon, one, 7), False)
        self.assertIs(self.told((6, 0, []), [], canon, one, 7), False)
        self.assertEqual(least_heard(canon, one, 7, [(2, 0), (6, 1)]), [1])
        none = Table(2, 3, [(0, 1, 0), (1, 0, 1)])
        self.assertIs(self.told((6, 0, []), [], canon, none, 7), True)
        self.assertIs(self.told((6, 0, [(0, 1)]), [(6, 1)], canon, none, 7), True)
        self.assertIs(self.told((6, 0, []), [], canon, none, 6), False)
        self.assertEqual(many_heard(canon, one, 7, [(6, 1)]), [])
        self.assertEqual(may_have(canon, one, 7, [(6, 0)], 6), [0])
        self.assertEqual(may_have(canon, one, 7, [], 6), [0])
        self.assertEqual(surely(canon, one, 7, [(6, 0)]), [(6, 0)])
        self.assertEqual(surely(canon, one, 7, [(3, 0)]), [(3, 0)])

    def test_a_falling_row_is_told_from_its_first_beat(self):
        # Rows [7, 2], [9, 6, 0] and [11, 10, 8, 4].
        canon, table = Canon(1, 6, 2, 0), Table(2, 2, [(0, 1), (1, 0)])
        self.assertEqual(clash_of(canon, table, 12, [(0, 1), (6, 1), (4, 0)]), (9, 3, [(1, 1), (2, 1)]))
        self.assertIs(self.told((9, 3, [(1, 1), (2, 1)]), [(0, 1), (6, 1), (4, 0)], canon, table, 12), True)
        self.assertIs(self.told((0, 3, [(0, 1), (1, 1)]), [(0, 1), (6, 1), (4, 0)], canon, table, 12), False)
        self.assertEqual(surely(canon, table, 12, [(10, 0), (7, 0)]), [(2, 1), (4, 0), (7, 0), (8, 1), (10, 0), (11, 1)])


class UnlikeRows(unittest.TestCase):
    def test_what_is_heard_on_another_row_changes_nothing(self):
        seen = 0
        for number, numbers in enumerate(small_numbers()[::31] + tuned_numbers()):
            canon = Canon(*numbers)
            for table in drawn("rows", 3, 2, 3) + drawn("rows", 2, 3, 3) + [rising_table(4, 2), full_table(2, 2)]:
                n = 14
                chance = random.Random(f"{number}")
                heard = [(beat, chance.randrange(table.notes())) for beat in chance.sample(range(n), 3)]
                if many_heard(canon, table, n, heard) == []:
                    continue
                rows = heard_rows(numbers, n, heard)
                for beat in range(n):
                    own = next(beats for beats, length, known in rows if beat in beats)
                    alone = [(other, note) for other, note in heard if other in own]
                    self.assertEqual(may_have(canon, table, n, heard, beat), may_have(canon, table, n, alone, beat))
                    seen += alone != heard
        self.assertGreater(seen, 500)

    def test_a_row_that_lets_none_leaves_no_note_anywhere(self):
        canon, table = Canon(1, 0, 2, 1), Table(2, 2, [(0, 1), (1, 0)])
        heard = [(0, 1), (1, 1)]
        self.assertEqual([may_have(canon, table, 6, heard, beat) for beat in range(6)], [[]] * 6)
        self.assertIsNone(surely(canon, table, 6, heard))
        self.assertEqual(many_heard(canon, table, 6, heard), [])

    def test_forty_heard_notes(self):
        with within(20):
            canon, table = Canon(1, 0, 2, 1), Table(2, 2, [(0, 1), (1, 0)])
            heard = [(beat, 0) for beat in range(0, 80, 2)]
            # Each even beat begins a row of its own, whose notes take turns.
            told = surely(canon, table, 80, heard)
            self.assertEqual([beat for beat, note in told], list(range(80)))
            self.assertEqual([pair for pair in told if pair[0] % 2 == 0], heard)
            self.assertEqual(many_heard(canon, table, 80, heard), [(1, 1)])
            self.assertEqual(many_heard(canon, table, 82, heard), [(2, 1)])
            self.assertEqual(many_heard(n=80, heard=tuple(heard[1:]), table=table, canon=canon), [(2, 1)])
            self.assertEqual(may_have(beat=79, n=80, heard=heard, table=table, canon=canon), [0])
            self.assertEqual(surely(heard=heard[:1], n=4, table=table, canon=canon), [(0, 0), (1, 1), (3, 0)])


class SmallTables(unittest.TestCase):
    def test_one_note(self):
        canon = Canon(1, 3, 2, 0)
        for n in range(9):
            for heard in ([], [(0, 0)], [(beat, 0) for beat in range(n)]):
                if heard and heard[-1][0] >= n:
                    continue
                told = many_heard(canon, full_table(1, 2), n, heard)
                self.assertEqual(told, [(1, 1)])
                self.assertEqual(surely(canon, full_table(1, 2), n, heard) == [], heard == [])

    def test_all_lists_heard(self):
        canon, table = Canon(2, 1, 3, 0), Table(2, 2, [(0, 1), (1, 1)])
        tunes = fitting_tunes((2, 1, 3, 0), table, 6)
        for tune in all_lists(2, 6):
            heard = list(enumerate(tune))
            self.assertEqual(many_heard(canon, table, 6, heard), [(1, 1)] if tune in tunes else [])
            self.assertEqual(surely(canon, table, 6, heard), heard if tune in tunes else None)


if __name__ == "__main__":
    unittest.main()
