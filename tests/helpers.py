"""What several tests need: tables made plainly, things that are no rows or tables, and plain reckoning beside."""

from copy import deepcopy
from fractions import Fraction

from echohouse.fracs import frac
from echohouse.systems import System
from echohouse.tables import noughts, product, turned, widened

NOUGHT = (0, 1)
LONG = 7 ** 473
THIRTY = 10 ** 29 + 7

NO_LISTS = (None, True, False, 0, 1, 2, "", "ab", b"", b"ab", (), ((1, 1), (1, 1)), {}, {"a": 1}, set(), 1.5, object())
NO_NUMBERS = (None, True, 0, 1, "1", [1, 2], (2, 4), (1, 0), (1, -2), (1,), (1, 2, 3), (True, 1), (1, True), [], ())


def row_of(*numbers):
    """A row out of whole numbers and texts like 3/4."""
    return [(Fraction(number).numerator, Fraction(number).denominator) for number in numbers]


def table_of(*rows):
    return [row_of(*row) for row in rows]


def mixed(many, wide, seed):
    """A table with numbers that differ from place to place, noughts and numbers below 0 among them."""
    numbers = []
    for place in range(many * wide):
        seed = (seed * 1103515245 + 12345) & 0x7FFFFFFF
        numbers.append(frac((seed >> 8) % 41 - 20, (seed >> 16) % 12 + 1))
    return [numbers[row * wide:(row + 1) * wide] for row in range(many)]


def plain(table):
    return [[Fraction(*number) for number in row] for row in table]


def told_plain(table):
    """Python's own fractions as tuples."""
    return [[(number.numerator, number.denominator) for number in row] for row in table]


def times_row(table, row):
    """A table times a row, by Python's own fractions."""
    numbers = [Fraction(*number) for number in row]
    made = [sum((left * right for left, right in zip(line, numbers)), Fraction(0)) for line in plain(table)]
    return told_plain([made])[0]


def plain_rank(table):
    """How many rows are no sums of the others, by plain clearing."""
    rows, rank = plain(table), 0
    for column in range(len(table[0]) if table else 0):
        pivot = next((at for at in range(rank, len(rows)) if rows[at][column]), None)
        if pivot is None:
            continue
        rows[rank], rows[pivot] = rows[pivot], rows[rank]
        for at in range(rank + 1, len(rows)):
            by = rows[at][column] / rows[rank][column]
            rows[at] = [left - by * right for left, right in zip(rows[at], rows[rank])]
        rank += 1
    return rank


def plain_firsts(table):
    """The places of the rows that are no sums of rows ahead of them, by plain clearing."""
    return [at for at in range(len(table)) if plain_rank(table[:at + 1]) > plain_rank(table[:at])]


def no_rows(many):
    """Things that are no rows of so many fractions."""
    right = mixed(1, many, 3)[0]
    things = list(NO_LISTS) + [tuple(right), right + [NOUGHT], right + [None], [right], [right] * many + [right]]
    if many:
        things += [right[1:], []] + [right[:-1] + [thing] for thing in NO_NUMBERS]
        things += [[thing] + right[1:] for thing in NO_NUMBERS]
    within = []
    within.append(within)
    return things + [within]


def no_tables(many, wide):
    """Things that are no tables of so many rows of so many fractions."""
    right = mixed(many, wide, 4)
    things = list(NO_LISTS) + [tuple(right), right + [mixed(1, wide, 1)[0]], right + [None]]
    if many:
        things += [right[1:]] + [right[:-1] + [row] for row in no_rows(wide)]
        things += [[tuple(row) for row in right], {at: row for at, row in enumerate(right)}]
    within = []
    within.append(within)
    return things + [within]


def system_of(cells, ins, outs, seed):
    return System(mixed(cells, cells, seed), mixed(cells, ins, seed + 1), mixed(outs, cells, seed + 2),
                  mixed(outs, ins, seed + 3))


def other_cells(system):
    """The same box, told by sums of its cells: each cell and all ahead of it."""
    cells = system.cells()
    mix = [[(1, 1) if column <= row else NOUGHT for column in range(cells)] for row in range(cells)]
    back = [[(1, 1) if column == row else (-1, 1) if column == row - 1 else NOUGHT for column in range(cells)]
            for row in range(cells)]
    move, push, look, through = system.tables()
    return System(product(mix, product(move, back, cells), cells), product(mix, push, system.ins()),
                  product(look, back, cells), through)


def more_cells(system, unseen, unmoved, seed):
    """An alike box with so many cells more that nobody looks at, and so many more that nothing pushes."""
    cells, ins, outs = system.cells(), system.ins(), system.outs()
    many = cells + unseen + unmoved
    move, push, look, through = system.tables()
    rows = [row + [NOUGHT] * unseen + far for row, far in zip(move, mixed(cells, unmoved, seed))]
    rows += mixed(unseen, many, seed + 1)
    rows += widened(noughts(unmoved, cells + unseen), mixed(unmoved, unmoved, seed + 2))
    looks = [row + [NOUGHT] * unseen + far for row, far in zip(look, mixed(outs, unmoved, seed + 3))]
    return System(rows, push + mixed(unseen, ins, seed + 4) + noughts(unmoved, ins), looks, through)


def turned_over(system):
    """The box whose tables are the turned ones, so that lines in and out change their places."""
    move, push, look, through = system.tables()
    cells, ins = system.cells(), system.ins()
    return System(turned(move, cells), turned(look, cells), turned(push, ins), turned(through, ins))


def sizes(most=8):
    """Cells, lines in and lines out of systems."""
    return [(cells, ins, outs) for cells in range(most + 1) for ins in (1, 2) for outs in (1, 2)]


def plain_turn(tables, state, given):
    """One turn by Python's own fractions: what comes out, and the next state."""
    move, push, look, through = tables
    return (times_row([left + right for left, right in zip(look, through)], state + given),
            times_row([left + right for left, right in zip(move, push)], state + given))


def plain_run(tables, state, inputs):
    outputs = []
    for given in inputs:
        output, state = plain_turn(tables, state, given)
        outputs.append(output)
    return outputs, state


def lists_in(thing):
    """All lists in a thing, itself too; also those in tuples."""
    found = [thing] if isinstance(thing, list) else []
    if isinstance(thing, (list, tuple)):
        found += [inner for item in thing for inner in lists_in(item)]
    return found


def spoil(thing):
    for one in lists_in(thing):
        one.append("more")


def holds_point_six(case, asked, handed):
    """What is handed in stays; what is told is new and equal each time, and hangs on nothing that is changed later."""
    before = deepcopy(handed)
    told, again = asked(*handed), asked(*handed)
    kept = deepcopy(told)
    case.assertEqual(handed, before)
    case.assertEqual(again, kept)
    own = [id(one) for one in lists_in(told)]
    known = [id(one) for one in lists_in(handed)] + [id(one) for one in lists_in(again)]
    case.assertEqual(len(own), len(set(own)))
    case.assertFalse(set(own) & set(known))
    spoil(told)
    case.assertEqual(asked(*handed), kept)
    case.assertEqual(handed, before)
    spoil(handed)
    case.assertEqual(again, kept)
