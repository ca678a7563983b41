"""Points 2, 10 and 11: whole numbers, fractions, and fractions as texts."""

import unittest
from fractions import Fraction
from itertools import product as pairs

from echohouse.errors import EchoError, NoFraction
from echohouse.fracs import (
    below, frac, is_fraction, is_whole, minus, over, plus, read_frac, show_frac, times,
)

THIRTY = 10 ** 29 + 7
LONG = 7 ** 473
WIDE = 11 ** 383 + 2

NO_NUMBERS = (
    True, False, None, "", "1", "3/4", b"1", [], [1], (), (1,), {}, {1: 2}, set(), 1.0, 0.5, 1j,
    Fraction(1, 2), object(), int, len,
)
NO_FRACTIONS = NO_NUMBERS + (
    0, 1, -7, THIRTY,
    (1, 2, 3), (1, 1, 1), [1, 2], [1, 1], ((1, 2),), ((1, 1), (1, 1)),
    (1, 0), (0, 0), (1, -1), (-1, -2), (0, -1), (0, 2), (0, THIRTY),
    (2, 4), (-2, 4), (6, 3), (2, 2), (-3, 3), (LONG, 49), (2 * LONG, 2 * WIDE),
    (True, 1), (False, 1), (1, True), (0, True), (True, True), (3, None), (None, 3), ("1", 2), (1, "2"), "12",
    (1.0, 2), (1, 2.0), ((1, 1), 1), (1, (1, 1)), ([1], 2), {"top": 1, "bottom": 2},
)
FRACTIONS = (
    (0, 1), (1, 1), (-1, 1), (2, 1), (-12, 1), (1, 2), (-1, 2), (3, 4), (-3, 4), (5, 6), (7, 6), (-7, 12), (25, 24),
    (THIRTY, 1), (-1, THIRTY), (THIRTY, 10 ** 29 + 9), (-THIRTY, THIRTY - 1),
    (LONG, 1), (LONG, WIDE), (-WIDE, LONG), (1, LONG), (WIDE - LONG, LONG),
)


def to_fraction(one):
    return Fraction(one[0], one[1])


class Kinds(unittest.TestCase):
    def test_whole_numbers(self):
        for thing in (0, 1, -1, 7, THIRTY, -THIRTY, LONG, -LONG, 10 ** 5000):
            self.assertIs(is_whole(thing), True)

    def test_no_whole_numbers(self):
        for thing in NO_NUMBERS + FRACTIONS:
            with self.subTest(thing=repr(thing)[:40]):
                self.assertIs(is_whole(thing), False)

    def test_fractions(self):
        for thing in FRACTIONS + ((10 ** 5000, 3),):
            self.assertIs(is_fraction(thing), True)

    def test_no_fractions(self):
        for thing in NO_FRACTIONS:
            with self.subTest(thing=repr(thing)[:40]):
                self.assertIs(is_fraction(thing), False)

    def test_asked_again(self):
        for thing in ((1, 2), (2, 4), [1, 2]):
            self.assertEqual(is_fraction(thing), is_fraction(thing))


class Reckoning(unittest.TestCase):
    def holds(self, told, wanted):
        """The told fraction has its form, and is the wanted number."""
        self.assertIs(is_fraction(told), True)
        self.assertEqual(told, (wanted.numerator, wanted.denominator))

    def test_frac_by_hand(self):
        for top, bottom, told in (
            (3, 4, (3, 4)), (6, 8, (3, 4)), (6, 3, (2, 1)), (0, 5, (0, 1)), (0, -5, (0, 1)), (5, 1, (5, 1)),
            (-6, 8, (-3, 4)), (6, -8, (-3, 4)), (-6, -8, (3, 4)), (7, -1, (-7, 1)), (-7, -7, (1, 1)), (0, 1, (0, 1)),
            (THIRTY * 6, THIRTY * 4, (3, 2)), (LONG * 10, -LONG * 4, (-5, 2)), (-LONG, -WIDE, (LONG, WIDE)),
        ):
            self.assertEqual(frac(top, bottom), told)

    def test_frac_of_many(self):
        for top in range(-12, 13):
            for bottom in list(range(-12, 0)) + list(range(1, 13)):
                self.holds(frac(top, bottom), Fraction(top, bottom))

    def test_by_hand(self):
        self.assertEqual(plus((1, 2), (1, 3)), (5, 6))
        self.assertEqual(plus((1, 6), (1, 3)), (1, 2))
        self.assertEqual(plus((1, 2), (-1, 2)), (0, 1))
        self.assertEqual(minus((1, 2), (1, 3)), (1, 6))
        self.assertEqual(minus((1, 3), (1, 2)), (-1, 6))
        self.assertEqual(times((2, 3), (-3, 4)), (-1, 2))
        self.assertEqual(times((0, 1), (5, 7)), (0, 1))
        self.assertEqual(over((2, 3), (-4, 9)), (-3, 2))
        self.assertEqual(over((0, 1), (-4, 9)), (0, 1))
        self.assertEqual(over((4, 1), (2, 1)), (2, 1))

    def test_every_two(self):
        for one, other in pairs(FRACTIONS, FRACTIONS):
            left, right = to_fraction(one), to_fraction(other)
            self.holds(plus(one, other), left + right)
            self.holds(minus(one, other), left - right)
            self.holds(times(one, other), left * right)
            self.assertIs(below(one, other), left < right)
            if other != (0, 1):
                self.holds(over(one, other), left / right)

    def test_below_is_strict(self):
        self.assertIs(below((1, 2), (1, 2)), False)
        self.assertIs(below((1, 3), (1, 2)), True)
        self.assertIs(below((1, 2), (1, 3)), False)
        self.assertIs(below((-1, 2), (-1, 3)), True)
        self.assertIs(below((-1, 2), (0, 1)), True)
        self.assertIs(below((LONG, LONG + 1), (1, 1)), True)


class Texts(unittest.TestCase):
    def test_both_ways(self):
        nines = "9" * 30
        for one, text in (
            ((3, 4), "3/4"), ((-5, 1), "-5"), ((0, 1), "0"), ((1, 1), "1"), ((-1, 2), "-1/2"), ((10, 1), "10"),
            ((-100, 101), "-100/101"), ((7, 10), "7/10"), ((1020304050, 7), "1020304050/7"),
            ((10 ** 30 - 1, 1), nines), ((1 - 10 ** 30, 1), "-" + nines), ((1, 10 ** 30 - 1), "1/" + nines),
            ((10 ** 29, 10 ** 30 - 1), "1" + "0" * 29 + "/" + nines),
            ((2 - 10 ** 30, 10 ** 30 - 1), "-" + nines[:-1] + "8/" + nines),
        ):
            self.assertEqual(show_frac(one), text)
            self.assertEqual(read_frac(text), one)
            self.assertIs(is_fraction(read_frac(text)), True)

    def test_shown_and_read_again(self):
        for top in range(-30, 31):
            for bottom in range(1, 31):
                one = frac(top, bottom)
                self.assertEqual(show_frac(one), str(Fraction(top, bottom)))
                self.assertEqual(read_frac(show_frac(one)), one)

    def test_shown_however_long(self):
        self.assertEqual(show_frac((LONG, WIDE)), f"{LONG}/{WIDE}")
        self.assertEqual(show_frac((-LONG, 1)), f"-{LONG}")
        for many in (35, 36, 37, 71, 72, 73, 108, 4299, 4300, 4301, 9000):
            noughts, nines = "0" * many, "9" * many
            self.assertEqual(show_frac((10 ** many, 1)), "1" + noughts)
            self.assertEqual(show_frac((-10 ** many - 1, 10 ** many)), "-1" + noughts[:-1] + "1/1" + noughts)
            self.assertEqual(show_frac((10 ** many - 1, 10 ** many)), nines + "/1" + noughts)

    def test_refused_texts(self):
        one_too_many = "1" + "0" * 30
        for text in (
            "", "-", "/", "-/", "/2", "1/", "-/2", "1/2/3", "1//2", "--1", "-1/-2", "1/-2", "1-", "1-2",
            "00", "01", "-01", "007/2", "1/02", "1/007", "-0", "0/1", "0/2", "-0/3", "+1", "+1/2", "1/+2",
            "5/1", "-5/1", "1/1", "1/0", "0/0", "-3/0", "2/4", "-2/4", "6/3", "10/15",
            " ", " 1", "1 ", "1 /2", "1/ 2", "- 1", "1 2", "1\n", "\n1", "1/2\n", "\t1", "1_0", "1/1_2", "1,0",
            "1.0", "0.5", "1e3", "0x1", "a", "1a", "half", "None", "(1, 2)",
            one_too_many, "-" + one_too_many, "1/" + one_too_many, one_too_many + "/7", "0" * 31, "9" * 5000,
            "1/" + "7" * 5000, "0" * 5000,
            "\u0661", "\u0661/\u0662", "1/\u0663", "\u00b2", "\uff11", "\u2212" + "1", "\u00bd", "1\u00a0", "1\x00",
        ):
            with self.subTest(text=text[:40]):
                with self.assertRaises(NoFraction):
                    read_frac(text)

    def test_refused_things(self):
        for thing in (None, True, False, 0, 5, (3, 4), [], ["1"], ("1", "2"), {}, b"1", b"3/4", 1.5, object(), str):
            with self.assertRaises(NoFraction) as taken:
                read_frac(thing)
            self.assertIsInstance(taken.exception, EchoError)
            self.assertEqual(taken.exception.word(), "no fraction")


if __name__ == "__main__":
    unittest.main()
