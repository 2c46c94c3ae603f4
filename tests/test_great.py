"""Points 3 and 12 to 17 for numbers of thirty figures, all of them told at once."""

import unittest

from leadbeats.canons import Canon
from leadbeats.rows import begun, joins, least_for, longest, members, row, row_at, rows, runs
from tests.walks import GREAT, great_numbers, great_row, turning, within

LENGTHS = (10 ** 6 + 1, GREAT, 9 * GREAT + 12345)


def great_tunes():
    """Canons and great tunes: the numbers, the canon and n."""
    for numbers in great_numbers():
        for n in LENGTHS:
            yield numbers, Canon(*numbers), n


def near(n, beats):
    """The beats of a tune that are near some beats."""
    return sorted({beat + by for beat in beats for by in range(-4, 5) if 0 <= beat + by < n})


def some_of(many):
    """Some numbers below many, the first and the last among them."""
    return sorted({number for number in (0, 1, many // 3, many // 2, many - 2, many - 1) if 0 <= number < many})


def led_far(numbers, n):
    """Beats of a tune whose offset a high power of a divides, where the paces have no common divisor."""
    a, b, c, d = numbers
    told = []
    for steps in range(2, 70, 7):
        try:
            beat = (b * c - a * d) * pow(c - a, -1, a ** steps) % a ** steps
        except ValueError:
            continue
        least = beat + max(0, -((beat - b) // a ** steps)) * a ** steps
        told += [least, least + a ** steps]
    return [beat for beat in told if beat < n]


class GreatRows(unittest.TestCase):
    def check_beats(self, numbers, n, beats):
        canon = Canon(*numbers)
        for beat in beats:
            if canon.loop() == beat:
                self.assertEqual(row(canon, n, beat), (beat, 0, None))
                self.assertEqual(members(canon, n, beat), [beat])
                continue
            told = great_row(numbers, n, beat)
            self.assertEqual(members(canon, n, beat), told, (numbers, n, beat))
            self.assertEqual(row(canon, n, beat), (told[0], told.index(beat), len(told)), (numbers, n, beat))

    def test_rows_of_beats(self):
        with within(60):
            for numbers, canon, n in great_tunes():
                turn = int(turning(numbers))
                self.check_beats(numbers, n, near(n, [0, numbers[1], numbers[3], turn, n - 1, n // 2]))

    def test_beats_that_are_led_far(self):
        most = 0
        with within(60):
            for numbers, canon, n in great_tunes():
                beats = led_far(numbers, n)
                self.check_beats(numbers, n, beats)
                most = max([most] + [row(canon, n, beat)[2] or 0 for beat in beats])
        self.assertGreater(most, 60)

    def test_rows_rise_above_the_turning_point_and_fall_below_it(self):
        falling = Canon(2, 7 * GREAT + 3, 3, 5)
        beats = members(falling, 30 * GREAT, row_at(falling, 30 * GREAT, longest(falling, 15 * GREAT), 0))
        self.assertEqual(beats, sorted(beats, reverse=True))
        self.assertGreater(len(beats), 2)
        rising = Canon(2, 3, 3, 8)
        beats = members(rising, GREAT, row_at(rising, GREAT, longest(rising, GREAT), 0))
        self.assertEqual(beats, sorted(beats))
        self.assertGreater(len(beats), 40)


class GreatLengths(unittest.TestCase):
    def test_all_beats_are_in_rows_or_the_loop(self):
        with within(60):
            for numbers, canon, n in great_tunes():
                told = rows(canon, n)
                loop = canon.loop()
                beats = sum(length * many for length, many in told)
                self.assertEqual(beats + (loop is not None and loop < n), n, (numbers, n))
                self.assertEqual(told, sorted(told))
                self.assertTrue(all(many > 0 for length, many in told))
                self.assertEqual(longest(canon, n), told[-1][0])

    def test_runs_of_rows(self):
        with within(60):
            for numbers, canon, n in great_tunes():
                told = rows(canon, n)
                for length in (1, 2, 3, 10, longest(canon, n), longest(canon, n) + 1, GREAT, 9 * GREAT):
                    many = sum(max(0, size - length + 1) * times for size, times in told)
                    self.assertEqual(runs(canon, n, length), many, (numbers, n, length))

    def test_written_down(self):
        canon = Canon(1, 0, 2, 0)
        n = 2 ** 98
        told = [(length, 2 ** (97 - length)) for length in range(1, 98)] + [(98, 1)]
        self.assertEqual(rows(canon, n), told)
        self.assertEqual(rows(Canon(6 * GREAT, 1, 9 * GREAT, 2), 10 ** 30 - 1),
                         [(1, 10 ** 30 - 1 - 4), (2, 2)])


class GreatNumbers(unittest.TestCase):
    def test_first_last_and_some_between(self):
        with within(60):
            for numbers, canon, n in great_tunes():
                told = rows(canon, n)
                for length, many in told[:3] + told[-3:]:
                    for number in some_of(many):
                        first = row_at(canon, n, length, number)
                        self.assertEqual(row(canon, n, first), (first, 0, length), (numbers, n, length, number))
                        self.assertEqual(begun(canon, n, length, first), number)
                        self.assertEqual(begun(canon, n, length, first + 1), number + 1)
                    self.assertEqual(begun(canon, n, length, 0), 0)
                    self.assertEqual(begun(canon, n, length, n), many)
                    self.assertEqual(begun(canon, n, length, 9 * GREAT + 99999), many)

    def test_lengths_of_which_there_are_none(self):
        with within(5):
            for numbers, canon, n in great_tunes():
                for length in (longest(canon, n) + 1, GREAT, 9 * GREAT):
                    self.assertEqual(begun(canon, n, length, n), 0)
                    self.assertEqual(runs(canon, n, length), 0)


class GreatGrowing(unittest.TestCase):
    def test_least_for_is_the_least(self):
        with within(60):
            for numbers in great_numbers():
                canon = Canon(*numbers)
                for length in (1, 2, 3, 4, 17, 100):
                    n = least_for(canon, length)
                    if n is None:
                        self.assertTrue(length > 2 and canon.inner() is None)
                        continue
                    self.assertGreaterEqual(longest(canon, n), length, (numbers, length))
                    self.assertLess(longest(canon, n - 1), length, (numbers, length))

    def test_what_was_told_may_be_handed_in_again(self):
        with within(60):
            for numbers in great_numbers()[::4]:
                canon = Canon(*numbers)
                n = least_for(canon, 100)
                if n is None:
                    continue
                for size in (n - 1, n, n + 1):
                    length, many = rows(canon, size)[-1]
                    first = row_at(canon, size, length, many - 1)
                    self.assertEqual(row(canon, size, first), (first, 0, length))
                    self.assertEqual(members(canon, size, first)[0], first)
                    self.assertEqual(begun(canon, size, length, first), many - 1)
                    self.assertGreaterEqual(joins(canon, size), size)

    def test_joins_is_the_least(self):
        with within(60):
            for numbers, canon, n in great_tunes():
                told = joins(canon, n)
                self.assertEqual(joins(canon, told), told)
                self.assertTrue(min(great_row(numbers, told + 1, told)) < told, (numbers, n))
                # All beats between are rows alone or the loop.
                loop = canon.loop()
                alone = told - n - (loop is not None and n <= loop < told)
                before, after = dict(rows(canon, n)), dict(rows(canon, told))
                before[1] = before.get(1, 0) + alone
                self.assertEqual({length: before[length] for length in before if before[length]}, after)


if __name__ == "__main__":
    unittest.main()
