"""Points 20 to 24, and what point 6 says of them: first rows, tables solved, inverses, determinants, still rows."""

import unittest
from copy import deepcopy
from fractions import Fraction

from echohouse.errors import Flat
from echohouse.fracs import frac, is_fraction, times
from echohouse.solving import Answer, Never, Solution, determinant, first_rows, inverse, solved, still
from echohouse.tables import (
    is_row, is_table, noughts, product, row_scaled, row_sum, table_scaled, turned, unit, weighed,
)
from helpers import (
    LONG, NOUGHT, THIRTY, holds_point_six, mixed, no_rows, plain, plain_rank, row_of, table_of, times_row,
)


def with_sums(many, wide, seed):
    """A table in which each third row is a sum of the two ahead of it, and a row of noughts stands first."""
    rows = [[NOUGHT] * wide]
    for at, row in enumerate(mixed(many - 1, wide, seed)):
        if at % 3 == 2:
            row = row_sum(row_scaled((2, 3), rows[-1]), row_scaled((-1, 5), rows[-2]))
        rows.append(row)
    return rows


def tables():
    """Tables of many sizes, with their widths."""
    found = [
        ([], 0), ([], 1), ([], 3), ([[]], 0), ([[], [], []], 0), (noughts(2, 3), 3), (noughts(1, 1), 1),
        (table_of((1, 2), (2, 4)), 2), (table_of((0, 0, 1), (0, 2, 0), (3, 0, 0)), 3),
        (table_of((0, 1), (0, 2), (1, 0)), 2), (table_of((1,), (2,), (0,)), 1), (table_of((0, 0, 5, 1)), 4),
        ([[(LONG, THIRTY), (1, LONG)], [(THIRTY, LONG), (LONG, 1)]], 2),
        ([[(LONG, 1), (2 * LONG, 1)], [(1, LONG), (2, LONG)]], 2),
    ]
    for many, wide in ((1, 1), (1, 4), (4, 1), (2, 2), (3, 3), (3, 5), (5, 3), (5, 5), (7, 4), (4, 7), (8, 8)):
        found.append((mixed(many, wide, many + wide), wide))
        found.append((with_sums(many, wide, many * wide), wide))
        found.append((turned(with_sums(wide, many, 3), many), wide))
    return found


def squares():
    return [table for table, wide in tables() if len(table) == wide]


def aims(table, wide):
    """Aims that the table reaches, and others."""
    many = len(table)
    reached = times_row(table, mixed(1, wide, 5)[0])
    return [
        reached, [NOUGHT] * many, times_row(table, [(1, 1)] * wide), mixed(1, many, 6)[0], mixed(1, many, 7)[0],
        row_sum(reached, [NOUGHT] * (many - 1) + [(1, 12)]) if many else [],
        row_sum(reached, [(1, LONG)] + [NOUGHT] * (many - 1)) if many else [],
    ]


class FirstRows(unittest.TestCase):
    def test_by_hand(self):
        for table, places in (
            ([], []), ([[]], []), ([[], [], []], []), (noughts(3, 2), []), (unit(3), [0, 1, 2]),
            (table_of((1, 2)), [0]), (table_of((0, 0), (1, 2), (2, 4), (0, 1)), [1, 3]),
            (table_of((1, 0, 0), (0, 1, 0), (1, 1, 0), (0, 0, 0), (1, 1, 1), (5, 6, 7)), [0, 1, 4]),
            (table_of((0, 0, "1/3"), (0, "1/2", 0), ("-1/2", 0, 0)), [0, 1, 2]),
            (table_of(("1/2", "1/3"), ("1/4", "1/6"), ("1/4", "1/7")), [0, 2]),
            (table_of((5,), (0,), ("-2/7",)), [0]), (table_of((0,), (0,), ("-2/7",), (1,)), [2]),
        ):
            self.assertEqual(first_rows(table), places)

    def test_they_are_no_sums_of_rows_ahead(self):
        for table, wide in tables():
            told = first_rows(table)
            ranks = [plain_rank(table[:at]) for at in range(len(table) + 1)]
            self.assertEqual(told, [at for at in range(len(table)) if ranks[at + 1] > ranks[at]])
            self.assertEqual(told, sorted(set(told)))

    def test_each_row_is_a_sum_of_first_rows_no_later(self):
        for table, wide in tables():
            told = first_rows(table)
            for at, row in enumerate(table):
                ahead = [table[place] for place in told if place <= at]
                self.assertTrue(solved(turned(ahead, wide), len(ahead), row).found())
                self.assertIsNone(still(turned(ahead, wide), len(ahead)))

    def test_as_many_in_another_order_and_of_the_turned_table(self):
        for table, wide in tables():
            many = len(first_rows(table))
            self.assertEqual(len(first_rows(table[::-1])), many)
            self.assertEqual(len(first_rows(table[1:] + table[:1])), many)
            self.assertEqual(len(first_rows(table[::2] + table[1::2])), many)
            self.assertEqual(len(first_rows(turned(table, wide))), many)

    def test_great_tables(self):
        table = mixed(40, 40, 6)
        self.assertEqual(first_rows(table), list(range(40)))
        table[20] = row_sum(table[3], row_scaled((-2, 7), table[19]))
        self.assertEqual(first_rows(table), [at for at in range(40) if at != 20])


class Solved(unittest.TestCase):
    def test_by_hand(self):
        told = solved(table_of((2, 0), (0, "1/2")), 2, row_of(1, 1))
        self.assertIsInstance(told, Solution)
        self.assertEqual(told.numbers, row_of("1/2", 2))
        told = solved(table_of((0, 1), (3, 0)), 2, row_of(5, "-1/2"))
        self.assertEqual(told.numbers, row_of("-1/6", 5))
        told = solved(table_of((1, 1), (2, 2)), 2, row_of(1, 3))
        self.assertIsInstance(told, Never)
        self.assertEqual(weighed(told.weights, row_of(1, 2)), NOUGHT)
        self.assertNotEqual(weighed(told.weights, row_of(1, 3)), NOUGHT)
        self.assertTrue(solved(table_of((1, 1), (2, 2)), 2, row_of(1, 2)).found())

    def test_without_rows_or_numbers(self):
        self.assertEqual(solved([], 0, []).numbers, [])
        for wide in (1, 3):
            told = solved([], wide, [])
            self.assertTrue(told.found() and is_row(told.numbers, wide))
        self.assertEqual(solved([[], []], 0, row_of(0, 0)).numbers, [])
        for aim in (row_of(0, 1), row_of("1/2", 0), row_of(3, -1)):
            told = solved([[], []], 0, aim)
            self.assertIsInstance(told, Never)
            self.assertTrue(is_row(told.weights, 2))
            self.assertNotEqual(weighed(told.weights, aim), NOUGHT)

    def test_just_one_of_both(self):
        seen = {True: 0, False: 0}
        for table, wide in tables():
            for aim in aims(table, wide):
                reached = plain_rank([row + [number] for row, number in zip(table, aim)]) == plain_rank(table)
                told = solved(table, wide, aim)
                self.assertIs(told.found(), reached)
                self.assertEqual(isinstance(told, Solution), reached)
                self.assertEqual(isinstance(told, Never), not reached)
                if reached:
                    self.assertTrue(is_row(told.numbers, wide))
                    self.assertEqual(times_row(table, told.numbers), aim)
                else:
                    self.assertTrue(is_row(told.weights, len(table)))
                    self.assertEqual(times_row(turned(table, wide), told.weights), [NOUGHT] * wide)
                    self.assertNotEqual(weighed(told.weights, aim), NOUGHT)
                self.assertIs(told.shows(table, wide, aim), True)
                seen[reached] += 1
        self.assertTrue(seen[True] > 40 and seen[False] > 40, seen)

    def test_great_tables(self):
        table, aim = mixed(40, 40, 6), mixed(1, 40, 7)[0]
        self.assertTrue(solved(table, 40, aim).shows(table, 40, aim))
        table[33] = row_sum(table[3], row_scaled((-2, 7), table[19]))
        told = solved(table, 40, aim)
        self.assertFalse(told.found())
        self.assertTrue(told.shows(table, 40, aim))


class Answers(unittest.TestCase):
    TABLE, AIM, NEVER = table_of((1, 2, 0), (2, 4, 0)), row_of(1, 2), row_of(1, 3)

    def test_kinds(self):
        self.assertTrue(issubclass(Solution, Answer) and issubclass(Never, Answer))
        self.assertFalse(issubclass(Solution, Never) or issubclass(Never, Solution))

    def test_a_plain_answer(self):
        self.assertIs(Answer().found(), False)
        for table, wide in tables():
            for aim in aims(table, wide)[:3]:
                self.assertIs(Answer().shows(table, wide, aim), False)

    def test_a_solution(self):
        for numbers in (row_of(1, 0, 0), row_of(1, 0, 5), row_of(0, "1/2", 0), row_of(-1, 1, "1/3")):
            self.assertIs(Solution(numbers).found(), True)
            self.assertIs(Solution(numbers).shows(self.TABLE, 3, self.AIM), True)
            self.assertIs(Solution(numbers).shows(self.TABLE, 3, self.NEVER), False)
        for numbers in (row_of(0, 0, 0), row_of(1, 1, 0), row_of("1/2", 0, 0)):
            self.assertIs(Solution(numbers).shows(self.TABLE, 3, self.AIM), False)
        self.assertIs(Solution(row_of(0, 0, 7)).shows(self.TABLE, 3, row_of(0, 0)), True)

    def test_a_never(self):
        for weights in (row_of(2, -1), row_of(-2, 1), row_of(1, "-1/2")):
            self.assertIs(Never(weights).found(), False)
            self.assertIs(Never(weights).shows(self.TABLE, 3, self.NEVER), True)
            self.assertIs(Never(weights).shows(self.TABLE, 3, self.AIM), False)
        for weights in (row_of(0, 0), row_of(2, 1), row_of(1, 0), row_of(0, 1)):
            self.assertIs(Never(weights).shows(self.TABLE, 3, self.NEVER), False)
        self.assertIs(Never([(1, 1), NOUGHT]).shows([[], []], 0, row_of(1, 0)), True)
        self.assertIs(Never([(1, 1), NOUGHT]).shows([[], []], 0, row_of(0, 1)), False)
        self.assertIs(Never([]).shows([], 2, []), False)

    def test_weights_must_bring_every_column_to_nought(self):
        for table in (table_of((1, 1), (1, 0)), table_of((1, 1), (0, 1))):
            self.assertIs(Never(row_of(1, -1)).shows(table, 2, row_of(1, 0)), False)

    def test_made_of_anything(self):
        for thing in no_rows(3):
            self.assertIs(Solution(thing).found(), True)
            self.assertIs(Solution(thing).shows(self.TABLE, 3, self.AIM), False)
            self.assertIs(Solution(thing).shows(noughts(2, 3), 3, row_of(0, 0)), False)
        for thing in no_rows(2):
            self.assertIs(Never(thing).found(), False)
            self.assertIs(Never(thing).shows(self.TABLE, 3, self.NEVER), False)
        for thing in no_rows(0):
            self.assertIs(Solution(thing).shows([], 0, []), False)
            self.assertIs(Never(thing).shows([], 0, []), False)
        self.assertIs(Solution([]).shows([], 0, []), True)
        self.assertIs(Solution((NOUGHT,)).shows([[(1, 1)]], 1, [NOUGHT]), False)
        self.assertIs(Solution([(True, 1)]).shows([[(1, 1)]], 1, [(1, 1)]), False)
        self.assertIs(Solution([(2, 2)]).shows([[(1, 1)]], 1, [(1, 1)]), False)

    def test_fields(self):
        for thing in (row_of(1, 2), None, (1, 2), "text", [], [[]], {"a": 1}):
            self.assertEqual(Solution(thing).numbers, thing)
            self.assertEqual(Never(thing).weights, thing)


def apart_from(table, at, column):
    return [row[:column] + row[column + 1:] for place, row in enumerate(table) if place != at]


def plain_determinant(table):
    """Along the first row, as the point tells."""
    if not table:
        return Fraction(1)
    return sum((
        (-1) ** k * Fraction(*number) * plain_determinant(apart_from(table, 0, k)) for k, number in enumerate(table[0])
    ), Fraction(0))


class Inverses(unittest.TestCase):
    def test_by_hand(self):
        self.assertEqual(inverse([]), [])
        self.assertEqual(inverse(table_of(("-2/3",))), table_of(("-3/2",)))
        self.assertEqual(inverse(table_of((1, 2), (3, 4))), table_of((-2, 1), ("3/2", "-1/2")))
        self.assertEqual(inverse(table_of((0, 2), ("1/3", 0))), table_of((0, 3), ("1/2", 0)))
        self.assertEqual(inverse(table_of((0, 1, 0), (0, 0, 1), (1, 0, 0))), table_of((0, 0, 1), (1, 0, 0), (0, 1, 0)))

    def test_both_ways_or_flat(self):
        seen = {True: 0, False: 0}
        for table in squares():
            many = len(table)
            there = plain_rank(table) == many
            seen[there] += 1
            if there:
                told = inverse(table)
                self.assertTrue(is_table(told, many, many))
                self.assertEqual(product(told, table, many), unit(many))
                self.assertEqual(product(table, told, many), unit(many))
                self.assertEqual(inverse(told), table)
            else:
                with self.assertRaises(Flat) as taken:
                    inverse(table)
                numbers = taken.exception.numbers
                self.assertTrue(is_row(numbers, many))
                self.assertNotEqual(numbers, [NOUGHT] * many)
                self.assertEqual(times_row(table, numbers), [NOUGHT] * many)
        self.assertTrue(min(seen.values()) > 4, seen)

    def test_flat_by_hand(self):
        for table, row in (
            (table_of((0,)), row_of(1)), (table_of((1, 2), (2, 4)), row_of(-2, 1)),
            (table_of((0, 1), (0, 0)), row_of(1, 0)), (table_of((1, 0), (1, 0)), row_of(0, 1)),
        ):
            with self.assertRaises(Flat) as taken:
                inverse(table)
            self.assertNotEqual(taken.exception.numbers, [NOUGHT] * len(row))
            self.assertEqual(plain_rank([taken.exception.numbers, row]), 1)

    def test_a_great_table(self):
        table = mixed(40, 40, 6)
        self.assertEqual(product(inverse(table), table, 40), unit(40))

    def test_long_numbers(self):
        table = table_scaled((LONG, THIRTY), mixed(4, 4, 5))
        table[1][2] = (1, LONG)
        self.assertEqual(product(table, inverse(table), 4), unit(4))


class Determinants(unittest.TestCase):
    def test_by_hand(self):
        for table, number in (
            ([], "1"), (table_of(("-2/3",)), "-2/3"), (table_of((0,)), "0"), (table_of((1, 2), (3, 4)), "-2"),
            (table_of((0, 1), (1, 0)), "-1"), (table_of((0, 1, 0), (0, 0, 1), (1, 0, 0)), "1"),
            (table_of((2, 0, 0), (7, "1/2", 0), (8, 9, 3)), "3"), (table_of((1, 2), (2, 4)), "0"), (unit(5), "1"),
            (table_of((0, 0, 0, 1), (0, 0, 1, 0), (0, 1, 0, 0), (1, 0, 0, 0)), "1"),
            (table_of((0, 0, 1), (0, 1, 0), (1, 0, 0)), "-1"),
        ):
            self.assertEqual(determinant(table), row_of(number)[0])

    def test_along_the_first_row(self):
        for table in squares():
            if len(table) <= 5:
                told = determinant(table)
                self.assertTrue(is_fraction(told))
                self.assertEqual(Fraction(*told), plain_determinant(table))
        for many in range(6):
            for seed in range(6):
                table = mixed(many, many, seed)
                self.assertEqual(Fraction(*determinant(table)), plain_determinant(table))

    def test_nought_just_where_there_is_no_inverse(self):
        for table in squares():
            self.assertEqual(determinant(table) == NOUGHT, plain_rank(table) < len(table))

    def test_of_a_product_of_the_turned_table_and_of_the_inverse(self):
        for many in range(8):
            one, other = mixed(many, many, 11), mixed(many, many, 12)
            both = times(determinant(one), determinant(other))
            self.assertEqual(determinant(product(one, other, many)), both)
            self.assertEqual(determinant(turned(one, many)), determinant(one))
            self.assertEqual(times(determinant(inverse(one)), determinant(one)), (1, 1))
            if many > 1:
                changed = [one[1], one[0]] + one[2:]
                self.assertEqual(determinant(changed), times((-1, 1), determinant(one)))

    def test_great_tables(self):
        table = mixed(40, 40, 6)
        by = determinant(table)
        table[7] = row_scaled((3, 5), table[7])
        self.assertEqual(determinant(table), times((3, 5), by))
        table[7] = table[6]
        self.assertEqual(determinant(table), NOUGHT)


class StillRows(unittest.TestCase):
    def test_by_hand(self):
        self.assertEqual(plain_rank([still(table_of((1, 2), (2, 4)), 2), row_of(-2, 1)]), 1)
        self.assertEqual(plain_rank([still(table_of((1, 0, 0), (0, 0, 1)), 3), row_of(0, 1, 0)]), 1)
        self.assertIsNone(still(table_of((1, 2), (3, 4)), 2))
        self.assertIsNone(still(table_of((0,), (0,), (1,)), 1))

    def test_without_rows_or_numbers(self):
        for many in (0, 1, 4):
            self.assertIsNone(still([[] for row in range(many)], 0))
        for wide in (1, 2, 40):
            told = still([], wide)
            self.assertTrue(is_row(told, wide))
            self.assertNotEqual(told, [NOUGHT] * wide)

    def test_a_row_or_none(self):
        seen = {True: 0, False: 0}
        for table, wide in tables():
            told = still(table, wide)
            there = plain_rank(table) < wide
            seen[there] += 1
            self.assertEqual(told is not None, there)
            if there:
                self.assertTrue(is_row(told, wide))
                self.assertNotEqual(told, [NOUGHT] * wide)
                self.assertEqual(times_row(table, told), [NOUGHT] * len(table))
        self.assertTrue(min(seen.values()) > 10, seen)


def calls():
    found = []
    for table, wide in tables()[:20]:
        found += [(first_rows, [table]), (still, [table, wide])]
        for aim in aims(table, wide):
            found.append((lambda one, many, row: fields(solved(one, many, row)), [table, wide, aim]))
            found.append((lambda one, many, row: Solution(row).shows(one, many, row), [table, wide, aim]))
            found.append((lambda one, many, row: Never(row).shows(one, many, row), [table, wide, aim]))
    for table in squares():
        found += [(told_inverse, [table]), (determinant, [table])]
    return found


def fields(answer):
    return answer.numbers if answer.found() else answer.weights


def told_inverse(table):
    """The inverse, or what Flat has as its field."""
    try:
        return inverse(table)
    except Flat as refusal:
        return refusal.numbers


class OwnLists(unittest.TestCase):
    def test_point_six(self):
        for asked, handed in calls():
            holds_point_six(self, asked, deepcopy(handed))


class Whole(unittest.TestCase):
    def test_numbers_in_lowest_terms(self):
        for table in squares():
            if plain_rank(table) == len(table):
                self.assertEqual(inverse(table), [[frac(*number) for number in row] for row in inverse(table)])
        self.assertEqual(plain(inverse(table_of((2, 4), (6, 8)))), plain(table_of((-1, "1/2"), ("3/4", "-1/4"))))


if __name__ == "__main__":
    unittest.main()
