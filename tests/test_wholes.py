"""Point 2: whole numbers and fractions."""

import unittest
from fractions import Fraction

from leadbeats.wholes import fraction, is_whole, power, power_inverse, terms_below
from tests.walks import GREAT, NO_WHOLES


class Wholes(unittest.TestCase):
    def test_whole_numbers(self):
        for thing in (0, 1, -1, 9 * GREAT, -9 * GREAT):
            self.assertIs(is_whole(thing), True)
        self.assertIs(is_whole(thing=7), True)

    def test_no_whole_numbers(self):
        for thing in NO_WHOLES:
            if thing != -1:
                self.assertIs(is_whole(thing), False, thing)


class Fractions(unittest.TestCase):
    def test_written_down(self):
        for top, bottom, told in ((6, 4, (3, 2)), (6, -4, (-3, 2)), (-6, 4, (-3, 2)), (-6, -4, (3, 2)),
                                  (0, 5, (0, 1)), (0, -5, (0, 1)), (5, 5, (1, 1)), (5, -5, (-1, 1)),
                                  (12, 4, (3, 1)), (1, 7, (1, 7)), (7, 1, (7, 1)), (7, -1, (-7, 1))):
            self.assertEqual(fraction(top, bottom), told)

    def test_without_a_common_divisor(self):
        for top in range(-30, 31):
            for bottom in [*range(-30, 0), *range(1, 31)]:
                same = Fraction(top, bottom)
                told = fraction(bottom=bottom, top=top)
                self.assertEqual(told, (same.numerator, same.denominator))
                self.assertIsInstance(told, tuple)

    def test_great(self):
        self.assertEqual(fraction(6 * GREAT, -9 * GREAT), (-2, 3))
        self.assertEqual(fraction(9 * GREAT - 1, 9 * GREAT), (9 * GREAT - 1, 9 * GREAT))


class Helpers(unittest.TestCase):
    def test_power(self):
        for base in range(6):
            for exponent in range(20):
                self.assertEqual(power(base, exponent), base ** exponent)

    def test_power_inverse(self):
        for base, number in ((2, 7), (3, 1), (9, 20), (10, 3), (GREAT, 7), (GREAT + 7, GREAT)):
            for exponent in range(1, 12):
                told = power_inverse(number, base, exponent)
                self.assertEqual(told * number % base ** exponent, 1)
                self.assertTrue(0 <= told < base ** exponent)
        self.assertEqual(power_inverse(7, 1, 5), 0)

    def test_terms_below(self):
        for first in range(6):
            for step in range(1, 6):
                for bound in range(-3, 20):
                    told = len([term for term in range(first, 60, step) if term < bound])
                    self.assertEqual(terms_below(first, step, bound), told)


if __name__ == "__main__":
    unittest.main()
