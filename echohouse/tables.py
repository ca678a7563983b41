"""Rows and tables of fractions: what they weigh, their sums, products and powers."""

from echohouse.fracs import NOUGHT, ONE, common, frac, is_fraction, plus, times


def is_row(thing, many):
    return isinstance(thing, list) and len(thing) == many and all([is_fraction(number) for number in thing])


def is_table(thing, many, wide):
    return isinstance(thing, list) and len(thing) == many and all([is_row(row, wide) for row in thing])


def weighed(one, other):
    total = NOUGHT
    for left, right in zip(one, other):
        total = plus(total, times(left, right))
    return total


def row_sum(one, other):
    return [plus(left, right) for left, right in zip(one, other)]


def row_scaled(by, row):
    return [times(by, number) for number in row]


def table_sum(one, other):
    return [row_sum(left, right) for left, right in zip(one, other)]


def table_scaled(by, table):
    return [row_scaled(by, row) for row in table]


def product(one, other, wide):
    columns = turned(other, wide)
    lifted_rows = [lifted(row) for row in one]
    lifted_columns = [lifted(column) for column in columns]
    if None in lifted_rows or None in lifted_columns:
        return [[weighed(row, column) for column in columns] for row in one]
    return [[weighed_lifted(row, column) for column in lifted_columns] for row in lifted_rows]


def lifted(row):
    """The row as whole numbers and the one bottom below them all; None where that bottom is far too long."""
    # Over one bottom a weighing is reckoned in whole numbers and brought to lowest terms but once;
    # where the bottoms share little this no longer pays, for their product grows with each of them.
    longest = max([bottom.bit_length() for top, bottom in row], default=1)
    low = 1
    for top, bottom in row:
        low = low // common(low, bottom) * bottom
        if low.bit_length() > 4 * longest + 64:
            return None
    return ([top * (low // bottom) for top, bottom in row], low)


def weighed_lifted(one, other):
    tops, low = one
    other_tops, other_low = other
    return frac(sum([left * right for left, right in zip(tops, other_tops)]), low * other_low)


def unit(many):
    table = noughts(many, many)
    for place in range(many):
        table[place][place] = ONE
    return table


def noughts(many, wide):
    return [[NOUGHT for column in range(wide)] for row in range(many)]


def turned(table, wide):
    return [[row[place] for row in table] for place in range(wide)]


def power(table, many):
    # Squaring on the way, from the highest bit of many down, needs far fewer products than one for each number.
    wide = len(table)
    made = unit(wide)
    for place in reversed(range(many.bit_length())):
        made = product(made, made, wide)
        if (many >> place) & 1 == 1:
            made = product(made, table, wide)
    return made


def widened(one, other):
    return [left + right for left, right in zip(one, other)]
