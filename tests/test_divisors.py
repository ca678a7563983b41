"""Common divisors and what is left without them, on which all lowest terms hang (points 2 and 10), of long numbers."""

import unittest
from math import gcd

from echohouse.divisors import SHORT, SHORT_QUOTIENT, common, divided, half


def number(bits, seed):
    """A whole number with about so many bits that differ."""
    made = 1
    while made.bit_length() < bits:
        seed = (seed * 1103515245 + 12345) & 0x7FFFFFFF
        made = (made << 23) + (seed >> 8)
    return made


class Common(unittest.TestCase):
    def test_short_numbers(self):
        for one in range(-30, 31):
            for other in range(-30, 31):
                self.assertEqual(common(one, other), gcd(one, other))

    def test_long_numbers(self):
        for bits in (SHORT - 1, SHORT, SHORT + 1, 2 * SHORT, 5 * SHORT, 20 * SHORT):
            for seed in range(4):
                one, other, both = number(bits, seed), number(bits - seed * 500, seed + 9), number(77 * seed, 3)
                self.assertEqual(common(one, other), gcd(one, other))
                self.assertEqual(common(one * both, -other * both), gcd(one * both, other * both))
                self.assertEqual(common(one, one), one)
                self.assertEqual(common(one * other, other), other)
                self.assertEqual(common(one * other + 1, other), 1)
                self.assertEqual(common(one, 0), one)
                self.assertEqual(common(0, -one), one)

    def test_shapes(self):
        for one in range(SHORT - 2, SHORT + 3):
            for other in (1, 2000, SHORT, SHORT + 2, 3 * SHORT):
                for left, right in (((1 << one) - 1, (1 << other) - 1), ((1 << one) * 3 ** 90, (1 << other) * 3 ** 80),
                                    ((1 << one) + 1, 1 << other), (number(one, 1) << other, number(other, 1) << one)):
                    self.assertEqual(common(left, right), gcd(left, right))

    def test_the_longest_way(self):
        one, other = 1, 1
        for turn in range(20000):
            one, other = one + other, one
        self.assertEqual(common(one, other), 1)
        self.assertEqual(common(one * 30030, other * 30030), 30030)


class Half(unittest.TestCase):
    def holds(self, one, other):
        one, other = max(one, other), min(one, other)
        left, right, (a, b, c, d) = half(one, other)
        self.assertEqual((left, right), (a * one + b * other, c * one + d * other))
        self.assertIn(a * d - b * c, (1, -1))
        self.assertGreaterEqual(left, right)
        self.assertGreaterEqual(right, 0)
        self.assertLessEqual(right.bit_length(), one.bit_length() // 2 + 60)

    def test_many_pairs(self):
        # Among these are pairs whose lowest bits turn a sign, of either, or make the other one the greater.
        for seed in list(range(300)) + [2486]:
            self.holds(number(257, seed), number(257, seed + 1))
            self.holds(number(1000, seed), number(1000, seed + 1))

    def test_half_of_the_bits_and_the_factors_that_make_them(self):
        for bits in (2, 100, 256, 257, 300, 1000, 5000, 20000):
            for seed in range(6):
                one, other = number(bits, seed), number(bits - seed * bits // 8, seed + 50)
                self.holds(one, other)


class Divided(unittest.TestCase):
    def test_short_numbers(self):
        for by in (1, -1, 2, 3, -8, 10 ** 29):
            for quotient in (0, 1, -1, 7, -12, 10 ** 30):
                self.assertEqual(divided([quotient * by, by, 0], by), [quotient, 1, 0])
        self.assertEqual(divided([], 5), [])

    def test_long_numbers(self):
        lengths = (SHORT_QUOTIENT - 3, SHORT_QUOTIENT, SHORT_QUOTIENT + 1, 2 * SHORT_QUOTIENT + 7, 5 * SHORT_QUOTIENT)
        for bits in lengths:
            for length in lengths:
                for shift in (0, 1, 64, 999):
                    by = (number(bits, 3) | 1) << shift
                    quotients = [0, 1, -1, number(length, 4), -number(length, 5), number(length, 6) << 77, number(90, 7)]
                    for sign in (1, -1):
                        self.assertEqual(divided([one * by * sign for one in quotients], by * sign), quotients)
                        self.assertEqual(divided([one * by * sign for one in quotients], by),
                                         [one * sign for one in quotients])

    def test_quotients_of_all_ones_and_of_a_single_one(self):
        for bits in range(SHORT_QUOTIENT - 2, SHORT_QUOTIENT + 4):
            for by in ((1 << SHORT_QUOTIENT) - 1, (1 << SHORT_QUOTIENT) + 1, 3 << SHORT_QUOTIENT, number(9000, 2) | 1):
                for quotient in ((1 << bits) - 1, 1 << bits, (1 << bits) + 1):
                    for sign in (1, -1):
                        self.assertEqual(divided([quotient * by * sign], by), [quotient * sign])


if __name__ == "__main__":
    unittest.main()
