"""Points 3 and 13, and what point 6 says of them: rows and tables."""

import unittest
from copy import deepcopy
from fractions import Fraction

from echohouse.fracs import frac, is_fraction
from echohouse.tables import (
    is_row, is_table, noughts, power, product, row_scaled, row_sum, table_scaled, table_sum, turned, unit, weighed,
    widened,
)
from helpers import LONG, NOUGHT, NO_LISTS, NO_NUMBERS, THIRTY, lists_in, mixed, plain, row_of, table_of

def apart(many, wide):
    """A table with long bottoms that share little."""
    return [
        [frac(row - column, 2 ** 500 * (1 + row * wide + column) + 1) for column in range(wide)]
        for row in range(many)
    ]


def plain_product(one, other, wide):
    return [
        [
            sum((Fraction(*row[k]) * Fraction(*other[k][column]) for k in range(len(other))), Fraction(0))
            for column in range(wide)
        ]
        for row in one
    ]


class Kinds(unittest.TestCase):
    def test_rows(self):
        self.assertIs(is_row([], 0), True)
        self.assertIs(is_row([NOUGHT], 1), True)
        self.assertIs(is_row([(1, 2), (-3, 1), (LONG, 5)], 3), True)
        self.assertIs(is_row([NOUGHT] * 60, 60), True)

    def test_rows_of_another_length(self):
        for many in (0, 1, 3, 4):
            self.assertIs(is_row([(1, 2), (3, 1)], many), False)
        self.assertIs(is_row([], 1), False)

    def test_no_rows(self):
        for thing in NO_LISTS:
            for many in (0, 1, 2):
                self.assertIs(is_row(thing, many), False)
        for thing in NO_NUMBERS:
            self.assertIs(is_row([thing], 1), False, thing)
            self.assertIs(is_row([(1, 1), thing], 2), False, thing)
            self.assertIs(is_row([thing, (1, 1)], 2), False, thing)
        self.assertIs(is_row([[(1, 1)]], 1), False)
        within = []
        within.append(within)
        self.assertIs(is_row(within, 1), False)

    def test_tables(self):
        self.assertIs(is_table([], 0, 0), True)
        self.assertIs(is_table([], 0, 7), True)
        self.assertIs(is_table([[], [], []], 3, 0), True)
        self.assertIs(is_table([[(1, 2)]], 1, 1), True)
        self.assertIs(is_table([[(1, 2), NOUGHT], [(3, 1), (-LONG, 1)], [NOUGHT, NOUGHT]], 3, 2), True)
        self.assertIs(is_table(noughts(40, 40), 40, 40), True)

    def test_tables_of_another_size(self):
        table = [[(1, 2), NOUGHT, NOUGHT], [(3, 1), (4, 1), NOUGHT]]
        for many in range(5):
            for wide in range(5):
                self.assertIs(is_table(table, many, wide), (many, wide) == (2, 3))
        self.assertIs(is_table([], 1, 0), False)
        self.assertIs(is_table([[]], 0, 0), False)
        self.assertIs(is_table([[]], 1, 1), False)

    def test_no_tables(self):
        for thing in NO_LISTS:
            for size in (0, 1, 2):
                self.assertIs(is_table(thing, size, size), False)
            self.assertIs(is_table([thing], 1, 0), False)
            self.assertIs(is_table([thing, []], 2, 0), False)
            self.assertIs(is_table([[(1, 1), (1, 1)], thing], 2, 2), False)
        for thing in NO_NUMBERS:
            self.assertIs(is_table([[(1, 1)], [thing]], 2, 1), False, thing)
        self.assertIs(is_table(([(1, 1)],), 1, 1), False)
        self.assertIs(is_table([((1, 1),)], 1, 1), False)
        self.assertIs(is_table([(1, 1)], 1, 2), False)

    def test_rows_of_unlike_lengths(self):
        for wide in range(4):
            self.assertIs(is_table([[(1, 1), (1, 1)], [(1, 1)]], 2, wide), False)
            self.assertIs(is_table([[(1, 1)], [(1, 1), (1, 1)]], 2, wide), False)
            self.assertIs(is_table([[(1, 1)], []], 2, wide), False)


class Rows(unittest.TestCase):
    def test_weighed(self):
        self.assertEqual(weighed([], []), NOUGHT)
        self.assertEqual(weighed(row_of("1/2"), row_of("2/3")), (1, 3))
        self.assertEqual(weighed(row_of(1, 2, 3), row_of(4, -5, 6)), (12, 1))
        self.assertEqual(weighed(row_of(1, 1), row_of(1, -1)), NOUGHT)
        self.assertEqual(weighed(row_of("1/2", "1/3", "-1/6"), row_of("1/2", "1/3", "5")), frac(-17, 36))
        self.assertEqual(weighed([(LONG, THIRTY)], [(THIRTY, LONG)]), (1, 1))

    def test_row_sum(self):
        self.assertEqual(row_sum([], []), [])
        self.assertEqual(row_sum(row_of(1, "1/2", "-1/3"), row_of(-1, "1/3", "1/12")), row_of(0, "5/6", "-1/4"))
        self.assertEqual(row_sum([(LONG, 1)], [(1, LONG)]), [(LONG * LONG + 1, LONG)])

    def test_row_scaled(self):
        self.assertEqual(row_scaled((2, 3), []), [])
        self.assertEqual(row_scaled((-2, 3), row_of(0, 3, "-3/4")), row_of(0, -2, "1/2"))
        self.assertEqual(row_scaled(NOUGHT, row_of(7, "1/2")), [NOUGHT, NOUGHT])
        self.assertEqual(row_scaled((1, LONG), [(LONG, 1)]), [(1, 1)])


class Tables(unittest.TestCase):
    def test_sum_and_so_many_times(self):
        self.assertEqual(table_sum([], []), [])
        self.assertEqual(table_sum([[], []], [[], []]), [[], []])
        self.assertEqual(
            table_sum(table_of((1, "1/2"), (0, 3), (5, 6)), table_of((2, "1/2"), ("1/4", -3), (0, 1))),
            table_of((3, 1), ("1/4", 0), (5, 7)))
        self.assertEqual(table_scaled((1, 2), []), [])
        self.assertEqual(table_scaled((1, 2), [[], []]), [[], []])
        self.assertEqual(table_scaled((-1, 2), table_of((1, 2), ("2/3", 0), (-4, 5))),
                         table_of(("-1/2", -1), ("-1/3", 0), (2, "-5/2")))

    def test_product_by_hand(self):
        one = table_of((1, 2), (3, 4), (0, "1/2"))
        other = table_of((1, 0, "1/2", 5), (-1, 1, "1/4", 6))
        self.assertEqual(product(one, other, 4), table_of((-1, 2, 1, 17), (-1, 4, "5/2", 39), ("-1/2", "1/2", "1/8", 3)))

    def test_product_is_not_turned_round(self):
        one, other = table_of((0, 1), (0, 0)), table_of((0, 0), (1, 0))
        self.assertEqual(product(one, other, 2), table_of((1, 0), (0, 0)))
        self.assertEqual(product(other, one, 2), table_of((0, 0), (0, 1)))

    def test_product_without_rows_or_numbers(self):
        self.assertEqual(product([], [], 0), [])
        self.assertEqual(product([], [], 3), [])
        self.assertEqual(product([], table_of((1, 2)), 2), [])
        self.assertEqual(product([[], [], []], [], 2), [[NOUGHT, NOUGHT]] * 3)
        self.assertEqual(product([[], []], [], 0), [[], []])
        self.assertEqual(product(table_of((1, 2), (3, 4)), [[], []], 0), [[], []])

    def test_products_of_many_sizes(self):
        for many, middle, wide in ((1, 1, 1), (1, 3, 2), (4, 2, 3), (3, 5, 1), (5, 5, 5), (2, 7, 6), (1, 40, 1)):
            one, other = mixed(many, middle, 3), mixed(middle, wide, 4)
            told = product(one, other, wide)
            self.assertTrue(is_table(told, many, wide))
            self.assertEqual(plain(told), plain_product(one, other, wide))

    def test_products_of_long_numbers(self):
        for one, other in (
            (apart(6, 7), apart(7, 5)), (apart(6, 7), mixed(7, 5, 1)), (mixed(6, 7, 1), apart(7, 5)),
            (table_scaled((1, LONG), mixed(6, 7, 1)), table_scaled((LONG, THIRTY), mixed(7, 5, 2))),
        ):
            told = product(one, other, 5)
            self.assertTrue(is_table(told, 6, 5))
            self.assertEqual(plain(told), plain_product(one, other, 5))

    def test_unit_and_noughts(self):
        self.assertEqual(unit(0), [])
        self.assertEqual(unit(1), [[(1, 1)]])
        self.assertEqual(unit(3), table_of((1, 0, 0), (0, 1, 0), (0, 0, 1)))
        self.assertEqual(noughts(0, 0), [])
        self.assertEqual(noughts(0, 4), [])
        self.assertEqual(noughts(3, 0), [[], [], []])
        self.assertEqual(noughts(2, 3), table_of((0, 0, 0), (0, 0, 0)))

    def test_unit_changes_nothing_in_a_product(self):
        for table in (mixed(3, 4, 9), apart(3, 4)):
            self.assertEqual(product(unit(3), table, 4), table)
            self.assertEqual(product(table, unit(4), 4), table)

    def test_turned(self):
        self.assertEqual(turned(table_of((1, 2, 3), (4, 5, 6)), 3), table_of((1, 4), (2, 5), (3, 6)))
        self.assertEqual(turned([], 0), [])
        self.assertEqual(turned([], 3), [[], [], []])
        self.assertEqual(turned([[], []], 0), [])
        table = mixed(3, 5, 2)
        self.assertEqual(turned(turned(table, 5), 3), table)

    def test_power(self):
        self.assertEqual([power([], many) for many in (0, 1, 60)], [[], [], []])
        half = table_of(("-1/2",))
        for many in range(61):
            self.assertEqual(power(half, many), [[((-1) ** many, 2 ** many)]])
        table = table_of((1, 1), (1, 0))
        self.assertEqual(power(table, 0), unit(2))
        self.assertEqual(power(table, 1), table)
        self.assertEqual(power(table, 2), table_of((2, 1), (1, 1)))
        self.assertEqual(power(table, 60)[0][1], (1548008755920, 1))
        self.assertEqual(power(noughts(3, 3), 0), unit(3))
        self.assertEqual(power(noughts(3, 3), 1), noughts(3, 3))

    def test_each_power_is_once_more_times_the_table(self):
        table = mixed(4, 4, 5)
        wanted = unit(4)
        for many in range(61):
            self.assertEqual(power(table, many), wanted)
            wanted = product(wanted, table, 4)
        self.assertEqual(power(table_of((0, 1, 0), (0, 0, 1), (0, 0, 0)), 3), noughts(3, 3))

    def test_power_of_a_table_as_great_as_can_be(self):
        table = mixed(40, 40, 6)
        told = power(table, 60)
        self.assertTrue(is_table(told, 40, 40))
        halves = power(table, 30)
        self.assertEqual(told[17], product([halves[17]], halves, 40)[0])

    def test_widened(self):
        self.assertEqual(widened([], []), [])
        self.assertEqual(widened([[], []], [[], []]), [[], []])
        self.assertEqual(widened(table_of((1, 2), (3, 4)), table_of((5,), (6,))), table_of((1, 2, 5), (3, 4, 6)))
        self.assertEqual(widened(table_of((1,), (2,)), [[], []]), table_of((1,), (2,)))
        self.assertEqual(widened([[], []], table_of((1,), (2,))), table_of((1,), (2,)))


def calls():
    """Each reckoning that tells lists, with what is handed in to it."""
    row, table, wider = mixed(1, 3, 1)[0], mixed(3, 3, 2), mixed(3, 5, 3)
    return [
        (row_sum, [row, row]), (row_sum, [row, mixed(1, 3, 5)[0]]), (row_sum, [row, [NOUGHT] * 3]),
        (row_scaled, [(1, 1), row]), (row_scaled, [NOUGHT, row]),
        (table_sum, [table, table]), (table_sum, [table, noughts(3, 3)]),
        (table_scaled, [(1, 1), table]), (table_scaled, [NOUGHT, table]),
        (product, [table, wider, 5]), (product, [table, table, 3]), (product, [unit(3), table, 3]),
        (product, [apart(3, 5), apart(5, 5), 5]), (product, [[[], []], [], 2]),
        (unit, [3]), (noughts, [3, 3]), (noughts, [3, 0]), (turned, [wider, 5]), (turned, [[], 3]),
        (power, [table, 0]), (power, [table, 1]), (power, [table, 5]), (power, [noughts(3, 3), 2]),
        (widened, [table, wider]), (widened, [table, table]), (widened, [table, [[], [], []]]),
        (widened, [[[], [], []], table]), (widened, [[[], []], [[], []]]),
    ]


class OwnLists(unittest.TestCase):
    def test_what_is_handed_in_stays(self):
        for asked, handed in calls() + [(weighed, [mixed(1, 3, 1)[0], mixed(1, 3, 2)[0]]),
                                        (is_row, [mixed(1, 3, 1)[0], 3]), (is_table, [mixed(3, 3, 1), 3, 3])]:
            before = deepcopy(handed)
            asked(*handed)
            self.assertEqual(handed, before, asked)

    def test_lists_told_are_new_ones(self):
        for asked, handed in calls():
            told = asked(*handed)
            again = asked(*handed)
            known = [id(one) for one in lists_in(handed)] + [id(one) for one in lists_in(again)]
            own = [id(one) for one in lists_in(told)]
            self.assertEqual(len(own), len(set(own)), asked)
            self.assertFalse(set(own) & set(known), asked)

    def test_changing_what_was_told_changes_no_later_answer(self):
        for asked, handed in calls():
            told = asked(*handed)
            kept = deepcopy(told)
            for one in lists_in(told):
                one.append("more")
            self.assertEqual(asked(*handed), kept, asked)

    def test_changing_what_was_handed_in_changes_no_answer(self):
        for asked, shared in calls():
            handed = deepcopy(shared)
            told = asked(*handed)
            kept = deepcopy(told)
            for one in lists_in(handed):
                one.append("more")
            self.assertEqual(told, kept, asked)

    def test_numbers_told_are_fractions(self):
        for asked, handed in calls():
            for one in lists_in(asked(*handed)):
                self.assertTrue(all(isinstance(item, list) or is_fraction(item) for item in one), asked)


if __name__ == "__main__":
    unittest.main()
