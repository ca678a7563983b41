"""Rows and tables of fractions: what they weigh, their sums, products and powers."""

from echohouse.divisors import common
from echohouse.fracs import NOUGHT, ONE, frac, is_fraction, minus, plus, times


def is_row(thing, many):
    return isinstance(thing, list) and len(thing) == many and all([is_fraction(number) for number in thing])


def is_table(thing, many, wide):
    return isinstance(thing, list) and len(thing) == many and all([is_row(row, wide) for row in thing])


def weighed(one, other):
    total = NOUGHT
    for left, right in zip(one, other):
        total = plus(total, times(left, right))
    return total


def applied(table, row):
    """The table times the row."""
    return [numbers[0] for numbers in product(table, [[number] for number in row], 1)]


def is_nought(row):
    return all([number == NOUGHT for number in row])


def is_nought_table(table):
    return all([is_nought(row) for row in table])


def row_sum(one, other):
    return [plus(left, right) for left, right in zip(one, other)]


def row_scaled(by, row):
    return [times(by, number) for number in row]


def table_sum(one, other):
    return [row_sum(left, right) for left, right in zip(one, other)]


def table_less(one, other):
    """The one less the other, place by place."""
    return [[minus(left, right) for left, right in zip(row, away)] for row, away in zip(one, other)]


def table_scaled(by, table):
    return [row_scaled(by, row) for row in table]


def product(one, other, wide):
    lifted_rows = [lifted(row) for row in one]
    lifted_columns = [lifted(column) for column in turned(other, wide)]
    return [[weighed_lifted(row, column) for column in lifted_columns] for row in lifted_rows]


def lifted(row):
    """The row, its tops over one bottom, that bottom, and how many bits the longest of its own bottoms has."""
    low = shared_bottom(row)
    return row, raised(row, low), low, max([bottom.bit_length() for top, bottom in row], default=1)


def weighed_lifted(one, other):
    # Over one bottom a weighing is reckoned in whole numbers and brought to lowest terms but once;
    # where the bottoms share little this no longer pays, for their product grows with each of them.
    row, tops, low, longest = one
    other_row, other_tops, other_low, other_longest = other
    if low.bit_length() + other_low.bit_length() > 4 * (longest + other_longest) + 128:
        return weighed(row, other_row)
    return frac(sum([left * right for left, right in zip(tops, other_tops)]), low * other_low)


def shared_bottom(row):
    """The least whole number from 1 on that each bottom of the row divides."""
    low = 1
    for top, bottom in row:
        low = low // common(low, bottom) * bottom
    return low


def raised(row, low):
    """The row's tops, where all its numbers stand over this bottom."""
    return [top * (low // bottom) for top, bottom in row]


def unit(many):
    table = noughts(many, many)
    for place in range(many):
        table[place][place] = ONE
    return table


def noughts(many, wide):
    return [[NOUGHT for column in range(wide)] for row in range(many)]


def turned(table, wide):
    return [[row[place] for row in table] for place in range(wide)]


def power(table, many):
    # Squaring on the way, from the highest bit of many down, needs far fewer products than one for each number.
    wide = len(table)
    made = unit(wide)
    for place in reversed(range(many.bit_length())):
        made = product(made, made, wide)
        if (many >> place) & 1 == 1:
            made = product(made, table, wide)
    return made


def widened(one, other):
    return [left + right for left, right in zip(one, other)]
