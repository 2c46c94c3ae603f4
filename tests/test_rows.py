"""Points 11 to 17 against a walk from beat to beat, for small tunes."""

import unittest

from leadbeats.canons import Canon
from leadbeats.rows import begun, joins, least_for, longest, members, reach_from, row, row_at, rows, runs
from tests.walks import leads, small_numbers, walk

LENGTHS = (0, 1, 2, 3, 7, 16, 33, 58)


def small_tunes():
    """Small canons with tunes: the numbers, the canon, n, all rows and the loop."""
    for numbers in small_numbers():
        for n in LENGTHS:
            yield (numbers, Canon(*numbers), n, *walk(numbers, n))


class Rows(unittest.TestCase):
    def test_the_row_of_every_beat(self):
        for numbers, canon, n, told, loop in small_tunes():
            for beats in told:
                for place, beat in enumerate(beats):
                    self.assertEqual(row(canon, n, beat), (beats[0], place, len(beats)), (numbers, n, beat))
                    self.assertEqual(members(canon, n, beat), beats, (numbers, n, beat))
            if loop is not None:
                self.assertEqual(row(canon, n, loop), (loop, 0, None))
                self.assertEqual(members(canon, n, loop), [loop])

    def test_the_walk_has_all_kinds(self):
        kinds = set()
        for numbers, canon, n, told, loop in small_tunes():
            kinds.add(("loop", loop is not None))
            kinds.add(("inner", canon.inner() is None))
            for beats in told:
                kinds.add((min(len(beats), 4), beats[0] > beats[-1]))
        self.assertEqual(len(kinds), 2 + 2 + 7)

    def test_rows_written_down(self):
        rising = Canon(1, 0, 2, 0)
        self.assertEqual(members(rising, 13, 6), [3, 6, 12])
        self.assertEqual(row(rising, 13, 6), (3, 1, 3))
        self.assertEqual(row(rising, 12, 6), (3, 1, 2))
        self.assertEqual(row(rising, 13, 0), (0, 0, None))
        falling = Canon(1, 6, 2, 0)
        self.assertEqual(falling.turning(), (12, 1))
        self.assertEqual(members(falling, 12, 8), [11, 10, 8, 4])
        self.assertEqual(members(falling, 11, 8), [10, 8, 4])
        self.assertEqual(row(falling, 11, 4), (10, 2, 3))
        self.assertEqual(row(beat=4, n=11, canon=falling), (10, 2, 3))
        self.assertEqual(members(n=11, canon=falling, beat=4), [10, 8, 4])

    def test_led_k_steps_on_just_where_told(self):
        for numbers, canon, n, told, loop in small_tunes():
            a, b, c, d = numbers
            if canon.inner() is None or canon.inner()[1] > 1:
                continue
            turn = b * c - a * d
            for beat in range(n):
                first, place, length = row(canon, n, beat)
                offset = (c - a) * beat - turn
                steps, last = 0, beat
                while length is not None and offset * c % a ** (steps + 1) == 0 and last >= b:
                    later = (offset * c ** (steps + 1) // a ** (steps + 1) + turn) // (c - a)
                    if later >= n:
                        break
                    steps, last = steps + 1, later
                if length is not None:
                    self.assertEqual(steps, length - 1 - place, (numbers, n, beat))

    def test_a_told_list_is_the_askers_own(self):
        canon = Canon(1, 0, 2, 0)
        for ask, told in ((lambda: members(canon, 13, 6), [3, 6, 12]), (lambda: members(canon, 13, 0), [0]),
                          (lambda: rows(canon, 4), [(1, 1), (2, 1)])):
            first = ask()
            self.assertEqual(first, told)
            first.append(99)
            first[0] = None
            self.assertEqual(ask(), told)


class Lengths(unittest.TestCase):
    def test_how_many_of_each_length(self):
        for numbers, canon, n, told, loop in small_tunes():
            sizes = [len(beats) for beats in told]
            self.assertEqual(rows(canon, n), [(size, sizes.count(size)) for size in sorted(set(sizes))], (numbers, n))
            self.assertEqual(longest(canon, n), max(sizes, default=0))
            for length in range(1, max(sizes, default=0) + 3):
                many = sum(max(0, size - length + 1) for size in sizes)
                self.assertEqual(runs(canon, n, length), many, (numbers, n, length))

    def test_all_beats_are_in_them(self):
        for numbers, canon, n, told, loop in small_tunes():
            self.assertEqual(sum(length * many for length, many in rows(canon, n)) + (loop is not None), n)

    def test_written_down(self):
        rising = Canon(1, 0, 2, 0)
        self.assertEqual(rows(rising, 10), [(1, 3), (2, 1), (4, 1)])
        self.assertEqual([runs(rising, 10, length) for length in range(1, 7)], [9, 4, 2, 1, 0, 0])
        self.assertEqual(longest(rising, 10), 4)
        falling = Canon(1, 6, 2, 0)
        self.assertEqual(rows(falling, 12), [(1, 3), (2, 1), (3, 1), (4, 1)])
        self.assertEqual([runs(falling, 12, length) for length in range(1, 7)], [12, 6, 3, 1, 0, 0])
        # Beat 12 is the loop, and beat 13 is led to 14.
        self.assertEqual(rows(falling, 15), [(1, 3), (2, 2), (3, 1), (4, 1)])

    def test_the_tune_of_no_beats(self):
        for numbers in small_numbers():
            canon = Canon(*numbers)
            self.assertEqual((rows(canon, 0), longest(canon, 0), runs(canon, 0, 1)), ([], 0, 0))
            self.assertEqual((begun(canon, 0, 1, 5), runs(canon, 0, 2)), (0, 0))

    def test_a_loop_alone(self):
        canon = Canon(1, 0, 2, 0)
        self.assertEqual((rows(canon, 1), longest(canon, 1), runs(canon, 1, 1)), ([], 0, 0))
        self.assertEqual((rows(canon, 2), longest(canon, 2), runs(canon, 2, 1)), ([(1, 1)], 1, 1))

    def test_by_names(self):
        canon = Canon(2, 5, 3, 7)
        self.assertEqual(rows(n=20, canon=canon), rows(canon, 20))
        self.assertEqual(longest(n=20, canon=canon), longest(canon, 20))
        self.assertEqual(runs(length=2, n=20, canon=canon), runs(canon, 20, 2))


class Numbered(unittest.TestCase):
    def test_begun_and_row_at(self):
        for numbers, canon, n, told, loop in small_tunes():
            for length in range(1, max([len(beats) for beats in told], default=0) + 2):
                firsts = [beats[0] for beats in told if len(beats) == length]
                self.assertEqual([row_at(canon, n, length, number) for number in range(len(firsts))], firsts)
                for beat in (0, 1, n // 3, n // 2, max(n - 1, 0), n, n + 1, 2 * n + 40):
                    many = sum(first < beat for first in firsts)
                    self.assertEqual(begun(canon, n, length, beat), many, (numbers, n, length, beat))

    def test_written_down(self):
        falling = Canon(1, 6, 2, 0)
        self.assertEqual([row_at(falling, 12, 1, number) for number in range(3)], [1, 3, 5])
        self.assertEqual([row_at(falling, 12, length, 0) for length in (2, 3, 4)], [7, 9, 11])
        self.assertEqual([begun(falling, 12, 1, beat) for beat in range(8)], [0, 0, 1, 1, 2, 2, 3, 3])
        self.assertEqual([begun(falling, 12, 4, beat) for beat in (0, 4, 11, 12, 500)], [0, 0, 0, 1, 1])

    def test_every_beat(self):
        for numbers in ((1, 9, 2, 0), (2, 3, 3, 8), (2, 21, 3, 0), (4, 6, 6, 2), (4, 6, 6, 3)):
            canon = Canon(*numbers)
            for n in range(30):
                for length in range(1, 7):
                    firsts = [beats[0] for beats in walk(numbers, n)[0] if len(beats) == length]
                    for beat in range(40):
                        many = sum(first < beat for first in firsts)
                        self.assertEqual(begun(canon, n, length, beat), many)

    def test_by_names(self):
        canon = Canon(2, 5, 3, 7)
        self.assertEqual(begun(beat=9, length=1, n=20, canon=canon), begun(canon, 20, 1, 9))
        self.assertEqual(row_at(number=3, length=1, n=20, canon=canon), row_at(canon, 20, 1, 3))


class Growing(unittest.TestCase):
    def test_least_for(self):
        bound = 90
        for numbers in small_numbers():
            canon = Canon(*numbers)
            least = {}
            for n in range(bound):
                most = max([len(beats) for beats in walk(numbers, n)[0]], default=0)
                for length in range(1, most + 1):
                    least.setdefault(length, n)
            for length in range(1, max(least) + 3):
                told = least_for(canon, length)
                if length in least:
                    self.assertEqual(told, least[length], (numbers, length))
                else:
                    self.assertEqual(told is None, canon.inner() is None, (numbers, length))
                    self.assertTrue(told is None or told >= bound)

    def test_none_just_for_three_and_more_of_unlike_rests(self):
        for numbers in small_numbers():
            canon = Canon(*numbers)
            for length in (1, 2, 3, 4, 99, 100):
                told = least_for(canon=canon, length=length)
                self.assertEqual(told is None, length >= 3 and canon.inner() is None)

    def test_reach_from(self):
        bound = 200
        seen = set()
        for numbers in small_numbers()[::3]:
            canon = Canon(*numbers)
            told = walk(numbers, bound)[0]
            for low in (0, 1, 2, 5, 11, 17, 24, 40):
                for steps in (1, 2, 3, 4):
                    ends = [max(beats[at:at + steps + 1]) for beats in told for at in range(len(beats) - steps)
                            if min(beats[at:at + steps + 1]) >= low]
                    last = reach_from(canon, low, steps)
                    if ends:
                        self.assertEqual(last, min(ends), (numbers, low, steps))
                    else:
                        self.assertEqual(last is None, steps > 1 and canon.inner() is None, (numbers, low, steps))
                        self.assertTrue(last is None or last >= bound)
                    seen.add((last is None, bool(ends), steps))
        self.assertGreater(len(seen), 8)

    def test_joins(self):
        for numbers in small_numbers():
            canon = Canon(*numbers)
            onward = leads(numbers, 400)
            lesser = sorted({max(one, other) for one, other in onward.items() if one != other})
            for n in range(70):
                told = joins(canon, n)
                self.assertEqual(told, min(beat for beat in lesser if beat >= n), (numbers, n))
                self.assertEqual(joins(n=told, canon=canon), told)

    def test_a_beat_more(self):
        for numbers in small_numbers()[::3]:
            canon = Canon(*numbers)
            for n in range(45):
                before = [members(canon, n, beat) for beat in range(n)]
                after = [members(canon, n + 1, beat) for beat in range(n)]
                new = members(canon, n + 1, n)
                self.assertEqual(joins(canon, n) == n, len(new) > 1)
                rest = [beat for beat in new if beat != n]
                self.assertIn(new, ([n], rest + [n], [n] + rest))
                for old, later in zip(before, after):
                    self.assertEqual(later, new if old == rest else old)


if __name__ == "__main__":
    unittest.main()
