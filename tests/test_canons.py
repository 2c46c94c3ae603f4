"""Points 2 and 5 to 8: canons."""

import unittest
from fractions import Fraction
from math import gcd

from leadbeats.canons import Canon
from leadbeats.errors import BadCanon, NoBeat
from tests.walks import GREAT, NO_WHOLES, great_numbers, leads, small_numbers, turning, within


class Making(unittest.TestCase):
    def refused(self, numbers, part):
        with self.assertRaises(BadCanon) as caught:
            Canon(*numbers)
        self.assertEqual(caught.exception.part, part, numbers)

    def test_numbers_by_places_and_by_names(self):
        self.assertEqual(Canon(2, 5, 3, 7).numbers(), (2, 5, 3, 7))
        self.assertEqual(Canon(d=7, b=5, a=2, c=3).numbers(), (2, 5, 3, 7))
        self.assertIsInstance(Canon(2, 5, 3, 7).numbers(), tuple)

    def test_the_least_numbers(self):
        self.assertEqual(Canon(1, 0, 2, 0).numbers(), (1, 0, 2, 0))

    def test_one_amiss(self):
        for at, part in enumerate("abcd"):
            for thing in NO_WHOLES:
                numbers = [2, 5, 3, 7]
                numbers[at] = thing
                self.refused(numbers, part)

    def test_paces_from_one_on(self):
        self.refused((0, 0, 1, 0), "a")
        self.refused((1, 0, 0, 0), "c")

    def test_the_other_pace_is_more(self):
        self.refused((3, 0, 3, 0), "c")
        self.refused((3, 0, 2, 0), "c")
        self.refused((3, 0, 2, -1), "c")
        self.refused((9 * GREAT, 0, 9 * GREAT, 0), "c")

    def test_several_amiss(self):
        for first in range(4):
            for second in range(first + 1, 4):
                for thing in NO_WHOLES:
                    numbers = [2, 5, 3, 7]
                    numbers[first] = thing
                    numbers[second] = [thing]
                    self.refused(numbers, "abcd"[first])
        self.refused((None, None, None, None), "a")
        self.refused((5, True, 3, {}), "b")

    def test_equal_to_canons_of_the_same_numbers(self):
        self.assertTrue(Canon(2, 5, 3, 7) == Canon(2, 5, 3, 7))
        self.assertFalse(Canon(2, 5, 3, 7) != Canon(2, 5, 3, 7))
        for other in ((1, 5, 3, 7), (2, 4, 3, 7), (2, 5, 4, 7), (2, 5, 3, 0)):
            self.assertFalse(Canon(2, 5, 3, 7) == Canon(*other))
            self.assertTrue(Canon(2, 5, 3, 7) != Canon(*other))

    def test_equal_to_nothing_else(self):
        class Alike:
            def __eq__(self, other):
                return True

            def numbers(self):
                return (2, 5, 3, 7)

        for other in ((2, 5, 3, 7), [2, 5, 3, 7], "Canon", None, True, 0, {}, Canon, Alike()):
            self.assertIs(Canon(2, 5, 3, 7) == other, False)


class Leading(unittest.TestCase):
    def test_against_moments_written_down(self):
        bound = 200
        for numbers in small_numbers():
            a, b, c, d = numbers
            canon = Canon(*numbers)
            onward = {a * moment + b: c * moment + d for moment in range(bound)}
            back = {c * moment + d: a * moment + b for moment in range(bound)}
            moments = {a * moment + b: moment for moment in range(bound)}
            for beat in range(bound):
                self.assertEqual(canon.led(beat), onward.get(beat), (numbers, beat))
                self.assertEqual(canon.ahead(beat), back.get(beat), (numbers, beat))
                self.assertEqual(canon.moment(beat), moments.get(beat), (numbers, beat))

    def test_written_down(self):
        canon = Canon(2, 5, 3, 1)
        self.assertEqual([canon.led(beat) for beat in range(10)], [None] * 5 + [1, None, 4, None, 7])
        self.assertEqual([canon.ahead(beat) for beat in range(8)],
                         [None, 5, None, None, 7, None, None, 9])
        self.assertEqual([canon.moment(beat) for beat in range(10)], [None] * 5 + [0, None, 1, None, 2])

    def test_by_names(self):
        canon = Canon(2, 5, 3, 1)
        self.assertEqual((canon.led(beat=7), canon.ahead(beat=4), canon.moment(beat=9)), (4, 7, 2))

    def test_there_and_back(self):
        for numbers in small_numbers() + great_numbers():
            a, b, c, d = numbers
            canon = Canon(*numbers)
            for moment in (0, 1, 2, 99, GREAT, 9 * GREAT + 3):
                self.assertEqual(canon.moment(a * moment + b), moment)
                self.assertEqual(canon.led(a * moment + b), c * moment + d)
                self.assertEqual(canon.ahead(c * moment + d), a * moment + b)

    def test_no_beats(self):
        canon = Canon(2, 5, 3, 1)
        for ask in (canon.led, canon.ahead, canon.moment):
            for thing in NO_WHOLES:
                with self.assertRaises(NoBeat) as caught:
                    ask(thing)
                self.assertIs(caught.exception.beat, thing)


class Turning(unittest.TestCase):
    def test_written_down(self):
        for numbers, told in (((1, 0, 2, 0), (0, 1)), ((1, 3, 2, 0), (6, 1)), ((1, 0, 2, 3), (-3, 1)),
                              ((2, 5, 5, 3), (19, 3)), ((2, 0, 5, 1), (-2, 3)), ((2, 2, 4, 4), (0, 1)),
                              ((2, 0, 8, 1), (-1, 3))):
            self.assertEqual(Canon(*numbers).turning(), told)

    def test_beats_go_away_from_it(self):
        for numbers in small_numbers():
            told = Canon(*numbers).turning()
            self.assertEqual(told, (turning(numbers).numerator, turning(numbers).denominator))
            for one, other in leads(numbers, 100).items():
                self.assertEqual((other - Fraction(*told)) * numbers[0], (one - Fraction(*told)) * numbers[2])

    def test_loop_against_moments(self):
        for numbers in small_numbers():
            alike = [one for one, other in leads(numbers, 200).items() if one == other]
            self.assertEqual(Canon(*numbers).loop(), alike[0] if alike else None, numbers)

    def test_loop_written_down(self):
        for numbers, told in (((1, 0, 2, 0), 0), ((3, 4, 5, 4), 4), ((1, 3, 2, 0), 6), ((2, 9, 5, 3), 13),
                              ((2, 8, 5, 3), None), ((1, 0, 2, 1), None), ((2, 3, 3, 4), None),
                              ((2, 3, 5, 6), None)):
            self.assertEqual(Canon(*numbers).loop(), told)

    def test_a_whole_turning_point_need_be_no_loop(self):
        self.assertEqual(Canon(2, 3, 3, 4).turning(), (1, 1))
        self.assertIsNone(Canon(2, 3, 3, 4).loop())

    def test_great(self):
        canon = Canon(GREAT, 9 * GREAT, GREAT + 1, 8 * GREAT)
        self.assertEqual(canon.loop(), GREAT * GREAT + 9 * GREAT)
        self.assertEqual(canon.turning(), (GREAT * GREAT + 9 * GREAT, 1))
        self.assertEqual(canon.led(canon.loop()), canon.loop())


class Inner(unittest.TestCase):
    def test_without_a_common_divisor(self):
        self.assertEqual(Canon(2, 5, 3, 7).inner(), (0, 1, Canon(2, 5, 3, 7)))

    def test_like_rests(self):
        self.assertEqual(Canon(4, 7, 6, 3).inner(), (1, 2, Canon(2, 3, 3, 1)))
        self.assertEqual(Canon(3, 2, 6, 11).inner(), (2, 3, Canon(1, 0, 2, 3)))
        self.assertEqual(Canon(6 * GREAT, 5 * GREAT + 1, 9 * GREAT, 8 * GREAT + 1).inner(),
                         (2 * GREAT + 1, 3 * GREAT, Canon(2, 1, 3, 2)))

    def test_unlike_rests(self):
        self.assertIsNone(Canon(4, 6, 6, 3).inner())
        self.assertIsNone(Canon(6 * GREAT, 1, 9 * GREAT, 2).inner())

    def test_leading_is_the_inner_one(self):
        for numbers in small_numbers():
            a, b, c, d = numbers
            shared = gcd(a, c)
            onward = leads(numbers, 150)
            told = Canon(*numbers).inner()
            if b % shared != d % shared:
                self.assertIsNone(told)
                self.assertFalse([other for other in onward.values() if other in onward])
                continue
            rest, divisor, canon = told
            self.assertEqual((rest, divisor), (b % shared, shared))
            self.assertEqual(gcd(canon.numbers()[0], canon.numbers()[2]), 1)
            for beat in range(150):
                inside = canon.led((beat - rest) // divisor) if beat % divisor == rest else None
                self.assertEqual(onward.get(beat), None if inside is None else rest + divisor * inside)

    def test_told_at_once(self):
        with within(5):
            for numbers in great_numbers():
                canon = Canon(*numbers)
                canon.turning()
                canon.loop()
                canon.inner()
                for beat in (0, numbers[1], numbers[3], 9 * GREAT):
                    canon.led(beat)
                    canon.ahead(beat)
                    canon.moment(beat)


if __name__ == "__main__":
    unittest.main()
