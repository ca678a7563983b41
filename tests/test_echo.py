"""Points 80 to 84, and what points 6 and 7 say of them: weighings, their fall, and whether the echo dies out."""

import unittest
from copy import deepcopy
from fractions import Fraction

from boxes import DELAY, ECHO, EMPTY, GROWING
from echohouse.echo import Dies, Fading, Lives, Steady, echo, fall, steps_of, weights_on
from echohouse.errors import NoFit, NoTable, NoTurns, TooMany
from echohouse.fracs import below
from echohouse.solving import determinant
from echohouse.systems import System, run
from echohouse.tables import is_row, is_table, noughts, power, product, table_scaled, table_sum, turned, unit
from helpers import (
    LONG, NO_LISTS, NOUGHT, holds_point_six, lists_in, mixed, no_rows, no_tables, other_cells, plain, row_of, sizes,
    system_of, table_of, times_row, told_plain,
)

NO_MANY = (-1, -60, 61, 62, 10 ** 29, True, False, None, "3", "", [], [3], (), (3,), (3, 1), {}, 3.0, object())


def moved_by(*rows):
    """A system with this move; what comes in and out is of no matter here."""
    cells = len(rows)
    return System(table_of(*rows), mixed(cells, 1, 3), mixed(1, cells, 5), table_of((1,)))


def halved(*rows):
    """The same, its move made so small that the echo dies out."""
    system = moved_by(*rows)
    move, push, look, through = system.tables()
    return System(table_scaled((1, 100), move), push, look, through)


# Two cells that turn a quarter round at each turn.
ROUND = moved_by((0, -1), (1, 0))
DYING = [
    EMPTY, ECHO, DELAY, moved_by((0,)), moved_by(("-9/10",)), moved_by(("1/2", 5), (0, "1/3")), moved_by((0, "1/2"), (1, 0)),
    moved_by((0, 0, 0), (7, 0, 0), (9, 8, 0)), halved((1, 2, 3), (4, 5, 6), (7, 8, 10)),
    halved((1, 2, 3, 4), (-5, 6, 7, 8), (9, 1, -2, 3), (4, 5, 6, -7)), moved_by((0, 1, 0, 0), (0, 0, 1, 0), (0, 0, 0, 1), (0, 0, 0, 0)),
]
LIVING = [
    moved_by((3, 0), (0, "-1/3")),
    GROWING, moved_by((2,)), moved_by(("-3/2",)), moved_by(("1/2", 0), (0, 3)), moved_by((3, 0), (0, "1/4")),
    moved_by((1, 2), (3, 4)), moved_by((0, 0, 0), (0, "1/2", 0), (0, 0, 5)), moved_by((0, 3, 0), (1, 0, 0), (0, 0, "1/2")),
    moved_by((2, 0, 0, 0), (0, 3, 0, 0), (0, 0, 5, 0), (0, 0, 0, 7)), moved_by((0, 2, 0, 0), (-2, 0, 0, 0), (0, 0, 0, 1), (0, 0, 0, 0)),
]
STEADY = [
    moved_by((1,)), moved_by((-1,)), ROUND, moved_by((1, 1), (0, 1)), moved_by(("1/2", 0), (0, 2)), moved_by((-3, 0), (5, "-1/3")),
    moved_by((0, 0, 1), (1, 0, 0), (0, 1, 0)), moved_by((0, 0, 0), (0, 2, 0), (0, 0, -1)),
    moved_by(("3/5", "-4/5", 0, 0), ("4/5", "3/5", 0, 0), (0, 0, "1/2", 0), (0, 0, 0, "1/3")),
]


def plain_weight(weighing, state):
    numbers = [Fraction(*number) for number in state]
    made = [sum((left * right for left, right in zip(row, numbers)), Fraction(0)) for row in plain(weighing)]
    return sum((left * right for left, right in zip(numbers, made)), Fraction(0))


def squares(state):
    return sum((Fraction(*number) ** 2 for number in state), Fraction(0))


def next_state(system, state):
    return run(system, state, noughts(1, system.ins()))[1]


def symmetric(many, seed):
    table = mixed(many, many, seed)
    return table_sum(table, turned(table, many))


def squared(many, seed):
    """A positive table: one times its turned one, and the unit table."""
    table = mixed(many, many, seed)
    return table_sum(product(table, turned(table, many), many), unit(many))


def plain_steps(table):
    """The steps as point 81 tells them, by Python's own fractions."""
    rows, steps = plain(table), []
    while rows:
        steps.append(rows[0][0])
        if steps[-1] <= 0:
            break
        first = rows[0]
        rows = [[right - row[0] / first[0] * left for left, right in zip(first, row)][1:] for row in rows[1:]]
    return told_plain([steps])[0]


def changed(table, row, place):
    other = deepcopy(table)
    top, bottom = other[row][place]
    other[row][place] = (top + bottom, bottom)
    return other


class Fall(unittest.TestCase):
    def test_by_hand(self):
        self.assertEqual(fall(ECHO, table_of((4,))), table_of((3,)))
        self.assertEqual(fall(ROUND, unit(2)), noughts(2, 2))
        self.assertEqual(fall(ROUND, table_of((1, 2), (2, 5))), table_of((-4, 4), (4, 4)))
        self.assertEqual(fall(moved_by((1, 2), (3, 4)), table_of((1, 0), (0, -1))), table_of((9, 10), (10, 11)))
        self.assertEqual(fall(EMPTY, []), [])

    def test_weight_less_that_of_the_next_state(self):
        for cells, ins, outs in sizes():
            system = system_of(cells, ins, outs, 2)
            for weighing in (symmetric(cells, 4), unit(cells), noughts(cells, cells)):
                told = fall(system, weighing)
                self.assertTrue(is_table(told, cells, cells))
                self.assertEqual(turned(told, cells), told)
                for state in mixed(2, cells, 6) + unit(cells):
                    less = plain_weight(weighing, state) - plain_weight(weighing, next_state(system, state))
                    self.assertEqual(plain_weight(told, state), less)

    def test_point_six(self):
        for cells in (0, 1, 3):
            system = system_of(cells, 1, 1, 2)
            before = system.told()
            holds_point_six(self, lambda weighing: fall(system, weighing), [symmetric(cells, 4)])
            self.assertEqual(system.told(), before)


class Steps(unittest.TestCase):
    def test_by_hand(self):
        self.assertEqual(steps_of([]), [])
        self.assertEqual(steps_of(table_of((3,))), row_of(3))
        self.assertEqual(steps_of(table_of((0,))), row_of(0))
        self.assertEqual(steps_of(table_of(("-1/2",))), row_of("-1/2"))
        self.assertEqual(steps_of(table_of((2, 1), (1, 1))), row_of(2, "1/2"))
        self.assertEqual(steps_of(table_of((4, 2, 0), (2, 2, 1), (0, 1, 3))), row_of(4, 1, 2))

    def test_nought_or_below_at_the_first_a_middle_and_the_last_step(self):
        self.assertEqual(steps_of(table_of((0, 1), (1, 5))), row_of(0))
        self.assertEqual(steps_of(table_of((-2, 1), (1, 5))), row_of(-2))
        self.assertEqual(steps_of(table_of((1, 2, 0), (2, 4, 1), (0, 1, 9))), row_of(1, 0))
        self.assertEqual(steps_of(table_of((1, 2, 0), (2, 3, 1), (0, 1, 9))), row_of(1, -1))
        self.assertEqual(steps_of(table_of((1, 1), (1, 1))), row_of(1, 0))
        self.assertEqual(steps_of(table_of((1, 2), (2, 1))), row_of(1, -3))
        self.assertEqual(steps_of(table_of(("1/2", 0, 1), (0, "1/3", 1), (1, 1, 5))), row_of("1/2", "1/3", 0))
        self.assertEqual(steps_of(noughts(4, 4)), row_of(0))

    def test_against_plain_clearing(self):
        stopped = {}
        for many in range(9):
            for seed in range(6):
                for table in (symmetric(many, seed), squared(many, seed), unit(many)):
                    told = steps_of(table)
                    self.assertEqual(told, plain_steps(table))
                    self.assertTrue(is_row(told, len(told)))
                    stopped[len(told) < many] = True
                # Less by so much at one place that a later step is not above nought.
                for at in range(many):
                    table = squared(many, seed)
                    table[at][at] = plain_steps(table)[at] if seed % 2 else (-1, 1)
                    self.assertEqual(steps_of(table), plain_steps(table))
        self.assertEqual(sorted(stopped), [False, True])

    def test_positive_tables_have_as_many_steps_as_rows(self):
        for many in (1, 3, 8, 12):
            table = squared(many, 3)
            told = steps_of(table)
            self.assertEqual(len(told), many)
            self.assertTrue(all(below(NOUGHT, step) for step in told))
            whole = Fraction(1)
            for step in told:
                whole *= Fraction(*step)
            self.assertEqual((whole.numerator, whole.denominator), determinant(table))

    def test_forty_rows(self):
        many = 40
        table = [[(3, 1) if row == column else (1, 1) if abs(row - column) == 1 else NOUGHT for column in range(many)]
                 for row in range(many)]
        self.assertEqual(steps_of(table), plain_steps(table))
        table[39][39] = NOUGHT
        told = steps_of(table)
        self.assertEqual(len(told), 40)
        self.assertTrue(below(told[-1], NOUGHT))

    def test_long_numbers(self):
        table = [[(LONG, 2), (3, LONG)], [(3, LONG), (LONG, 7)]]
        self.assertEqual(steps_of(table), plain_steps(table))

    def test_point_six(self):
        for table in ([], squared(3, 2), symmetric(3, 1)):
            holds_point_six(self, steps_of, [table])


class Echo(unittest.TestCase):
    def test_dying(self):
        for system in DYING:
            told = echo(system)
            self.assertIsInstance(told, Dies)
            self.assertIs(told.dies(), True)
            self.falls_by_squares(system, told.weighing)
            steps = plain_steps(told.weighing)
            self.assertTrue(len(steps) == system.cells() and all(step[0] > 0 for step in steps))
            self.assertIs(told.shows(system), True)

    def test_living(self):
        for system in LIVING:
            told = echo(system)
            self.assertIsInstance(told, Lives)
            self.assertIs(told.dies(), False)
            self.falls_by_squares(system, told.weighing)
            self.assertTrue(is_row(told.state, system.cells()))
            self.assertNotEqual(squares(told.state), 0)
            self.assertTrue(plain_weight(told.weighing, told.state) <= 0)
            self.assertIs(told.shows(system), True)

    def test_steady(self):
        for system in STEADY:
            cells = system.cells()
            told = echo(system)
            self.assertIsInstance(told, Steady)
            self.assertIs(told.dies(), False)
            self.assertTrue(is_table(told.weighing, cells, cells))
            self.assertEqual(turned(told.weighing, cells), told.weighing)
            self.assertNotEqual(told.weighing, noughts(cells, cells))
            for state in mixed(3, cells, 4) + unit(cells):
                weight = plain_weight(told.weighing, state)
                for turn in range(4):
                    state = next_state(system, state)
                    self.assertEqual(plain_weight(told.weighing, state), weight)
            self.assertIs(told.shows(system), True)

    def falls_by_squares(self, system, weighing):
        cells = system.cells()
        self.assertTrue(is_table(weighing, cells, cells))
        self.assertEqual(turned(weighing, cells), weighing)
        for state in mixed(3, cells, 4) + unit(cells):
            for turn in range(3):
                after = next_state(system, state)
                self.assertEqual(plain_weight(weighing, state) - plain_weight(weighing, after), squares(state))
                state = after

    def test_by_hand(self):
        self.assertEqual(echo(EMPTY).weighing, [])
        self.assertEqual(echo(ECHO).weighing, table_of(("4/3",)))
        self.assertEqual(echo(DELAY).weighing, table_of((2, 0), (0, 1)))
        told = echo(moved_by((2,)))
        self.assertEqual(told.weighing, table_of(("-1/3",)))
        self.assertEqual(len(told.state), 1)
        self.assertEqual(echo(moved_by((0,))).weighing, table_of((1,)))

    def test_without_cells(self):
        for ins, outs in ((1, 1), (1, 2), (2, 1), (2, 2)):
            told = echo(system_of(0, ins, outs, 3))
            self.assertIsInstance(told, Dies)
            self.assertEqual(told.weighing, [])
            self.assertIs(told.shows(system_of(0, ins, outs, 3)), True)

    def test_of_all_sizes_and_by_other_cells(self):
        seen = {}
        for cells, ins, outs in sizes(4):
            for seed in range(4):
                system = system_of(cells, ins, outs, seed)
                move, push, look, through = system.tables()
                for scale in ((1, 1), (1, 30), (1, 3)):
                    scaled = System(table_scaled(scale, move), push, look, through)
                    told, other = echo(scaled), echo(other_cells(scaled))
                    self.assertIs(told.shows(scaled), True)
                    self.assertEqual((told.dies(), isinstance(told, Steady)), (other.dies(), isinstance(other, Steady)))
                    seen[told.dies()] = True
        self.assertEqual(sorted(seen), [False, True])

    def test_what_dies_out_gets_small_and_what_lives_does_not(self):
        for system in DYING + LIVING + STEADY:
            far = power(power(system.tables()[0], 60), 10)
            small = all(abs(Fraction(*number)) < Fraction(1, 10 ** 6) for row in far for number in row)
            self.assertEqual(echo(system).dies(), small)

    def test_too_many(self):
        for cells in range(5, 9):
            for ins, outs in ((1, 1), (2, 2)):
                with self.assertRaises(TooMany):
                    echo(system_of(cells, ins, outs, 1))
        echo(system_of(4, 2, 2, 1))

    def test_point_six(self):
        for system in (EMPTY, ECHO, LIVING[4], STEADY[3], system_of(4, 1, 1, 2)):
            before = system.told()
            holds_point_six(self, lambda: fields(echo(system)), [])
            holds_point_six(self, lambda: fields(echo(System(*system.tables()))), [])
            self.assertEqual(system.told(), before)

    def test_long_numbers(self):
        for number in ((LONG, LONG + 1), (LONG, 2), (1, LONG)):
            system = System([[number, (1, 1)], [NOUGHT, number]], mixed(2, 1, 3), mixed(1, 2, 4), noughts(1, 1))
            told = echo(system)
            self.assertEqual(told.dies(), number[0] < number[1])
            self.assertIs(told.shows(system), True)


def fields(answer):
    return (answer.weighing, answer.state) if isinstance(answer, Lives) else (answer.weighing,)


class Shows(unittest.TestCase):
    def test_kinds(self):
        for kind in (Dies, Lives, Steady):
            self.assertTrue(issubclass(kind, Fading))
            self.assertEqual([issubclass(kind, other) for other in (Dies, Lives, Steady)],
                             [kind is other for other in (Dies, Lives, Steady)])

    def test_a_plain_fading(self):
        self.assertIs(Fading().dies(), False)
        for system in (EMPTY, ECHO, ROUND, system_of(8, 2, 2, 1)):
            self.assertIs(Fading().shows(system), False)

    def test_dies(self):
        for thing in (None, [], "text", unit(2)):
            self.assertIs(Dies(thing).dies(), True)
            self.assertIs(Lives(thing, thing).dies(), False)
            self.assertIs(Steady(thing).dies(), False)

    def test_fields(self):
        for thing in (None, True, 3, "text", (1, 2), [], [[]], {"a": 1}, [[(2, 4)]], unit(2)):
            self.assertEqual(Dies(thing).weighing, thing)
            self.assertEqual(Steady(thing).weighing, thing)
            for other in (None, [], thing):
                self.assertEqual((Lives(thing, other).weighing, Lives(thing, other).state), (thing, other))

    def test_right_and_wrong_by_one_number(self):
        for system in DYING + LIVING + STEADY:
            cells = system.cells()
            told = echo(system)
            state = told.state if isinstance(told, Lives) else None
            for row in range(cells):
                for place in range(cells):
                    wrong = changed(told.weighing, row, place)
                    both = changed(wrong, place, row) if row != place else wrong
                    self.assertIs(remade(told, wrong).shows(system), row == place and still_right(told, system, wrong))
                    self.assertIs(remade(told, both).shows(system), still_right(told, system, both))
            if state is not None:
                for place in range(cells):
                    wrong = changed([state], 0, place)[0]
                    right = any(number[0] for number in wrong) and plain_weight(told.weighing, wrong) <= 0
                    self.assertIs(Lives(told.weighing, wrong).shows(system), right)

    def test_no_other_one_shows(self):
        for system in DYING + LIVING + STEADY:
            told = echo(system)
            states = unit(system.cells()) + mixed(3, system.cells(), 2)
            if isinstance(told, Dies):
                self.assertIs(Steady(told.weighing).shows(system), False)
                self.assertFalse(any(Lives(told.weighing, state).shows(system) for state in states))
            else:
                self.assertIs(Dies(told.weighing).shows(system), False)
            if isinstance(told, Steady):
                self.assertFalse(any(Lives(told.weighing, state).shows(system) for state in states))

    def test_the_weight_of_the_state(self):
        system = moved_by(("1/2", 0), (0, 3))
        weighing = table_of(("4/3", 0), (0, "-1/8"))
        for state, right in ((row_of(0, 1), True), (row_of(1, 0), False), (row_of(1, 4), True), (row_of(1, 3), False),
                             (row_of(0, 0), False), (row_of(0, "-7/5"), True)):
            self.assertIs(Lives(weighing, state).shows(system), right)
        # A weight of just nought is one of nought or below.
        system = moved_by(("1/2", 0), (0, "5/4"))
        weighing = table_of(("4/3", 0), (0, "-16/9"))
        self.assertIs(Lives(weighing, row_of(2, "3/2")).shows(system), False)
        self.assertIs(Lives(weighing, row_of(1, 1)).shows(system), True)
        system = moved_by(("1/2", 0), (0, 2))
        weighing = table_of(("4/3", 0), (0, "-1/3"))
        self.assertIs(Lives(weighing, row_of(1, 2)).shows(system), True)
        self.assertIs(Lives(weighing, row_of(1, "19/10")).shows(system), False)

    def test_tables_that_are_not_symmetric(self):
        # Each of these falls by the unit table, or not at all, but is no weighing.
        skew = table_of((0, 1), (-1, 0))
        self.assertEqual(fall(ROUND, skew), noughts(2, 2))
        self.assertIs(Steady(skew).shows(ROUND), False)
        self.assertIs(Steady(unit(2)).shows(ROUND), True)
        system = System(noughts(2, 2), mixed(2, 1, 1), mixed(1, 2, 1), noughts(1, 1))
        self.assertIs(Dies(unit(2)).shows(system), True)
        self.assertIs(Dies(table_of((1, 1), (0, 1))).shows(system), False)
        self.assertIs(Lives(table_of((1, 1), (0, 1)), row_of(1, 1)).shows(system), False)

    def test_too_wide_too_long_or_nought(self):
        system = moved_by(("1/2", 0), (0, 3))
        weighing = table_of(("4/3", 0), (0, "-1/8"))
        self.assertIs(Lives(weighing, row_of(0, 1)).shows(system), True)
        for wrong in (table_of(("4/3", 0, 0), (0, "-1/8", 0)), weighing + [row_of(0, 0)], weighing[:1], [], [[], []],
                      table_of(("4/3", 0, 0), (0, "-1/8", 0), (0, 0, 1))):
            self.assertIs(Lives(wrong, row_of(0, 1)).shows(system), False)
            self.assertIs(Dies(wrong).shows(system), False)
            self.assertIs(Steady(wrong).shows(system), False)
        for state in (row_of(0, 1, 0), row_of(1), [], row_of(0, 0)):
            self.assertIs(Lives(weighing, state).shows(system), False)
        self.assertIs(Steady(noughts(2, 2)).shows(ROUND), False)

    def test_without_cells(self):
        for ins, outs in ((1, 1), (2, 2)):
            system = system_of(0, ins, outs, 1)
            self.assertIs(Dies([]).shows(system), True)
            self.assertIs(Lives([], []).shows(system), False)
            self.assertIs(Steady([]).shows(system), False)
            for thing in ([[]], [[NOUGHT]], None, ()):
                self.assertIs(Dies(thing).shows(system), False)
                self.assertIs(Lives(thing, []).shows(system), False)
                self.assertIs(Steady(thing).shows(system), False)

    def test_made_of_anything(self):
        for system in (EMPTY, ECHO, ROUND, LIVING[4], system_of(8, 1, 1, 1)):
            cells = system.cells()
            for thing in no_tables(cells, cells):
                self.assertIs(Dies(thing).shows(system), False)
                self.assertIs(Steady(thing).shows(system), False)
                self.assertIs(Lives(thing, unit(cells)[0] if cells else []).shows(system), False)
                self.assertIs(Lives(thing, thing).shows(system), False)
        told = echo(LIVING[4])
        for thing in no_rows(2) + list(NO_LISTS):
            self.assertIs(Lives(told.weighing, thing).shows(LIVING[4]), False)

    def test_of_up_to_eight_cells(self):
        for cells in range(1, 9):
            # A chain of cells: what the first one holds is squared once for each turn until it is out.
            chain = [[(1, 1) if column == row - 1 else NOUGHT for column in range(cells)] for row in range(cells)]
            system = System(chain, mixed(cells, 1, 1), mixed(1, cells, 2), noughts(1, 1))
            weighing = [[(cells - row, 1) if row == column else NOUGHT for column in range(cells)] for row in range(cells)]
            self.assertIs(Dies(weighing).shows(system), True)
            self.assertIs(Dies(changed(weighing, cells - 1, cells - 1)).shows(system), False)
            self.assertIs(Dies(unit(cells)).shows(system), cells == 1)
            self.assertIs(Lives(weighing, unit(cells)[0]).shows(system), False)
            # A ring of cells never changes the sum of squares.
            ring = [[(1, 1) if column == (row - 1) % cells else NOUGHT for column in range(cells)] for row in range(cells)]
            system = System(ring, mixed(cells, 1, 1), mixed(1, cells, 2), noughts(1, 1))
            self.assertIs(Steady(unit(cells)).shows(system), True)
            self.assertIs(Steady(changed(unit(cells), 0, 0)).shows(system), cells == 1)
            double = System(table_scaled((2, 1), ring), mixed(cells, 1, 1), mixed(1, cells, 2), noughts(1, 1))
            weighing = table_scaled((-1, 3), unit(cells))
            self.assertIs(Lives(weighing, [(2, 3)] * cells).shows(double), True)
            self.assertIs(Lives(weighing, [NOUGHT] * cells).shows(double), False)
            self.assertIs(Dies(weighing).shows(double), False)
            self.assertIs(Steady(unit(cells)).shows(double), False)

    def test_point_six(self):
        for system in (ECHO, LIVING[4], STEADY[3]):
            answer = echo(system)
            kept = deepcopy(fields(answer)), system.told()
            self.assertIs(answer.shows(system), True)
            self.assertIs(answer.shows(System(*system.tables())), True)
            self.assertEqual((fields(answer), system.told()), kept)


def remade(answer, weighing):
    if isinstance(answer, Lives):
        return Lives(weighing, answer.state)
    return Dies(weighing) if isinstance(answer, Dies) else Steady(weighing)


def still_right(answer, system, weighing):
    """Whether a changed weighing, symmetric still, shows the same: only one that never falls may."""
    cells = system.cells()
    return isinstance(answer, Steady) and fall(system, weighing) == noughts(cells, cells) \
        and weighing != noughts(cells, cells)


class WeightsOn(unittest.TestCase):
    def test_by_hand(self):
        self.assertEqual(weights_on(ECHO, table_of((4,)), row_of(2), 3), row_of(16, 4, 1, "1/4"))
        self.assertEqual(weights_on(ROUND, table_of((1, 0), (0, 3)), row_of(1, 2), 4), row_of(13, 7, 13, 7, 13))
        self.assertEqual(weights_on(EMPTY, [], [], 2), row_of(0, 0, 0))
        # The weighing need not be symmetric here.
        self.assertEqual(weights_on(ROUND, table_of((0, 1), (0, 0)), row_of(1, 2), 1), row_of(2, -2))

    def test_state_by_state(self):
        for cells, ins, outs in sizes():
            system = system_of(cells, ins, outs, 3)
            for weighing in (mixed(cells, cells, 2), symmetric(cells, 5), unit(cells)):
                state = mixed(1, cells, 7)[0]
                told = weights_on(system, weighing, state, 5)
                self.assertTrue(is_row(told, 6))
                for number in told:
                    self.assertEqual(Fraction(*number), plain_weight(weighing, state))
                    state = times_row(system.tables()[0], state)

    def test_from_none_to_sixty_turns(self):
        for many in range(61):
            told = weights_on(ECHO, table_of((3,)), row_of(1), many)
            self.assertEqual(told, [(3, 4 ** turn) for turn in range(many + 1)])
        for system in (ROUND, GROWING, EMPTY):
            cells = system.cells()
            self.assertEqual(len(weights_on(system, unit(cells), [(1, 1)] * cells, 60)), 61)

    def test_what_dies_falls_by_the_squares(self):
        for system in DYING + LIVING:
            weighing = echo(system).weighing
            state = mixed(1, system.cells(), 3)[0]
            told = weights_on(system, weighing, state, 6)
            for number, after in zip(told, told[1:]):
                self.assertEqual(Fraction(*number) - Fraction(*after), squares(state))
                state = next_state(system, state)
        for system in STEADY:
            told = weights_on(system, echo(system).weighing, mixed(1, system.cells(), 3)[0], 6)
            self.assertEqual(told, told[:1] * 7)

    def test_refusals(self):
        for system in (EMPTY, ECHO, ROUND, system_of(3, 2, 1, 1), system_of(8, 1, 2, 1)):
            cells = system.cells()
            weighing, state = mixed(cells, cells, 1), mixed(1, cells, 1)[0]
            for thing in no_tables(cells, cells):
                with self.assertRaises(NoTable):
                    weights_on(system, thing, state, 2)
            for thing in no_rows(cells):
                with self.assertRaises(NoFit):
                    weights_on(system, weighing, thing, 2)
            for thing in NO_MANY:
                with self.assertRaises(NoTurns):
                    weights_on(system, weighing, state, thing)

    def test_several_refusals_at_once(self):
        for system in (EMPTY, ECHO, system_of(3, 2, 1, 1)):
            cells = system.cells()
            weighing, state = mixed(cells, cells, 1), mixed(1, cells, 1)[0]
            for thing in (None, "text", 5, (), {}):
                with self.assertRaises(NoTable):
                    weights_on(system, thing, thing, thing)
                with self.assertRaises(NoTable):
                    weights_on(system, thing, state, thing)
                with self.assertRaises(NoTable):
                    weights_on(system, thing, thing, 3)
                for many in NO_MANY:
                    with self.assertRaises(NoFit):
                        weights_on(system, weighing, thing, many)
                    with self.assertRaises(NoTurns):
                        weights_on(system, weighing, state, many)

    def test_point_six(self):
        for system in (EMPTY, ECHO, ROUND, system_of(3, 2, 1, 1)):
            cells = system.cells()
            before = system.told()
            holds_point_six(self, lambda weighing, state: weights_on(system, weighing, state, 4),
                            [mixed(cells, cells, 1), mixed(1, cells, 2)[0]])
            self.assertEqual(system.told(), before)
            self.assertEqual(len(lists_in(weights_on(system, unit(cells), [NOUGHT] * cells, 3))), 1)


if __name__ == "__main__":
    unittest.main()
