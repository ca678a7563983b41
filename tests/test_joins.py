"""Points 50 to 54, and what points 6 and 7 say of them: systems in a row, beside, fed back, and undone."""

import unittest
from copy import deepcopy

from echohouse.errors import Flat, NoFit, NoTable, TooMany
from echohouse.joins import beside, fed_back, in_row, remover
from echohouse.solving import determinant
from echohouse.systems import System, run
from echohouse.tables import is_row, noughts, product, table_scaled, table_sum, unit
from helpers import LONG, NOUGHT, mixed, no_tables, plain_turn, row_of, sizes, spoil, system_of, table_of, times_row


def states(cells):
    return [[NOUGHT] * cells] + unit(cells) + mixed(2, cells, 21)


def inputs_of(ins):
    return unit(ins) + mixed(4, ins, 22)


def stay(case, systems, asked):
    """What was joined is as it was, and the same comes of it again."""
    before = [system.told() for system in systems]
    told = asked(*systems).told()
    case.assertEqual([system.told() for system in systems], before)
    case.assertEqual(asked(*systems).told(), told)
    made = asked(*[System(*system.tables()) for system in systems])
    case.assertEqual(made.told(), told)
    spoil(made.tables())
    case.assertEqual(made.told(), told)


class InARow(unittest.TestCase):
    def test_by_hand(self):
        # A delay ahead of a sum of what comes in and what is held.
        one = System(table_of((0,)), table_of((1,)), table_of((1,)), table_of((0,)))
        other = System(table_of(("1/2",)), table_of((3,)), table_of((5,)), table_of((7,)))
        self.assertEqual(in_row(one, other).tables(), (
            table_of((0, 0), (3, "1/2")), table_of((1,), (0,)), table_of((7, 5)), table_of((0,))))
        self.assertEqual(in_row(other, one).tables(), (
            table_of(("1/2", 0), (5, 0)), table_of((3,), (7,)), table_of((0, 1)), table_of((0,))))

    def test_against_both_run_one_behind_the_other(self):
        for cells, ins, outs in sizes(4):
            for others in (0, 1, 4):
                for ends in (1, 2):
                    one, other = system_of(cells, ins, outs, cells), system_of(others, outs, ends, others + 30)
                    told = in_row(one, other)
                    self.assertEqual((told.cells(), told.ins(), told.outs()), (cells + others, ins, ends))
                    for start in states(cells + others):
                        inputs = inputs_of(ins)
                        middle, end = run(one, start[:cells], inputs)
                        outputs, other_end = run(other, start[cells:], middle)
                        self.assertEqual(run(told, start, inputs), (outputs, end + other_end))

    def test_without_cells(self):
        one, other = System([], [], [[], []], table_of((1,), (2,))), System([], [], [[]], table_of((3, 5)))
        self.assertEqual(in_row(one, other).tables(), ([], [], [[]], table_of((13,))))
        self.assertEqual(in_row(other, one).tables(), ([], [], [[], []], table_of((3, 5), (6, 10))))

    def test_refusals(self):
        for ins, outs in ((1, 1), (1, 2), (2, 1), (2, 2)):
            for next_ins in (1, 2):
                for cells, others in ((0, 0), (4, 4), (8, 0), (0, 8), (5, 4), (1, 8), (8, 8)):
                    one, other = system_of(cells, ins, outs, 1), system_of(others, next_ins, 1, 2)
                    if outs != next_ins:
                        with self.assertRaises(NoFit):
                            in_row(one, other)
                    elif cells + others > 8:
                        with self.assertRaises(TooMany):
                            in_row(one, other)
                    else:
                        self.assertEqual(in_row(one, other).cells(), cells + others)

    def test_both_stay(self):
        stay(self, [system_of(2, 1, 2, 1), system_of(3, 2, 2, 5)], in_row)
        one = system_of(2, 2, 2, 1)
        stay(self, [one, one], in_row)
        self.assertEqual(in_row(one, one).cells(), 4)


class Beside(unittest.TestCase):
    def test_by_hand(self):
        one = System(table_of((2,)), table_of((3,)), table_of((5,)), table_of((7,)))
        other = System(table_of((0, 1), (1, 0)), table_of((1,), (-1,)), table_of((4, "1/2")), table_of((9,)))
        self.assertEqual(beside(one, other).tables(), (
            table_of((2, 0, 0), (0, 0, 1), (0, 1, 0)), table_of((3, 0), (0, 1), (0, -1)),
            table_of((5, 0, 0), (0, 4, "1/2")), table_of((7, 0), (0, 9))))

    def test_against_each_run_alone(self):
        for cells in range(5):
            for others in (0, 1, 2, 4):
                one, other = system_of(cells, 1, 1, cells), system_of(others, 1, 1, others + 40)
                told = beside(one, other)
                self.assertEqual((told.cells(), told.ins(), told.outs()), (cells + others, 2, 2))
                for start in states(cells + others):
                    inputs = inputs_of(2)
                    outputs, end = run(one, start[:cells], [row[:1] for row in inputs])
                    other_outputs, other_end = run(other, start[cells:], [row[1:] for row in inputs])
                    self.assertEqual(run(told, start, inputs),
                                     ([left + right for left, right in zip(outputs, other_outputs)], end + other_end))

    def test_refusals(self):
        for lines in ((1, 2), (2, 1), (2, 2)):
            for cells, others in ((0, 0), (1, 2), (8, 8)):
                one, other = system_of(cells, 1, 1, 1), system_of(others, lines[0], lines[1], 2)
                for left, right in ((one, other), (other, one), (other, other)):
                    with self.assertRaises(NoFit):
                        beside(left, right)
        for cells, others in ((4, 4), (8, 0), (0, 8), (3, 5)):
            self.assertEqual(beside(system_of(cells, 1, 1, 1), system_of(others, 1, 1, 2)).cells(), 8)
        for cells, others in ((5, 4), (8, 1), (1, 8), (8, 8)):
            with self.assertRaises(TooMany):
                beside(system_of(cells, 1, 1, 1), system_of(others, 1, 1, 2))

    def test_both_stay(self):
        stay(self, [system_of(2, 1, 1, 1), system_of(3, 1, 1, 5)], beside)
        one = system_of(2, 1, 1, 1)
        stay(self, [one, one], beside)


def told_back(system, table):
    """Fed back, or what Flat has as its field."""
    try:
        return fed_back(system, table)
    except Flat as refusal:
        return refusal.numbers


class FedBack(unittest.TestCase):
    def test_by_hand(self):
        system = System(table_of((0,)), table_of((1,)), table_of((1,)), table_of((0,)))
        self.assertEqual(fed_back(system, table_of(("1/2",))).tables(),
                         (table_of(("1/2",)), table_of((1,)), table_of((1,)), table_of((0,))))
        # What goes in is twice what comes in: u = v + 1/2 u.
        system = System(table_of((3,)), table_of((1,)), table_of((1,)), table_of((1,)))
        self.assertEqual(fed_back(system, table_of(("1/2",))).tables(),
                         (table_of((4,)), table_of((2,)), table_of((2,)), table_of((2,))))
        system = System([], [], [[]], table_of((3, 0)))
        self.assertEqual(fed_back(system, table_of((1,), (1,))).tables(), ([], [], [[]], table_of(("-3/2", 0))))

    def test_against_a_run_with_what_goes_in(self):
        for cells, ins, outs in sizes(4):
            for seed in range(3):
                system, table = system_of(cells, ins, outs, seed), mixed(ins, outs, seed + 60)
                told = fed_back(system, table)
                self.assertEqual((told.cells(), told.ins(), told.outs()), (cells, ins, outs))
                for state in states(cells):
                    for given in inputs_of(ins):
                        (output,), end = run(told, state, [given])
                        back = times_row(table, output)
                        inside = [table_sum([[left]], [[right]])[0][0] for left, right in zip(given, back)]
                        self.assertEqual(plain_turn(system.tables(), state, inside), (output, end))

    def test_fed_back_once_more_by_the_opposite_numbers(self):
        for cells, ins, outs in sizes():
            system, table = system_of(cells, ins, outs, cells), mixed(ins, outs, 70)
            told = fed_back(fed_back(system, table), table_scaled((-1, 1), table))
            self.assertEqual(told.told(), system.told())
            self.assertEqual(fed_back(system, noughts(ins, outs)).told(), system.told())

    def test_no_table(self):
        for cells, ins, outs in sizes(1) + [(8, 2, 1)]:
            system = system_of(cells, ins, outs, 1)
            for thing in no_tables(ins, outs):
                with self.assertRaises(NoTable):
                    fed_back(system, thing)
        # Of a flat one too, for NoTable goes first.
        flat = System([], [], [[]], table_of((1,)))
        for thing in (table_of((1, 1)), table_of((1,), (1,)), [((1, 1),)], [[(2, 2)]], [[(True, 1)]], [[1]]):
            with self.assertRaises(NoTable):
                fed_back(flat, thing)

    def test_flat(self):
        for through, table in (
            (table_of((1,)), table_of((1,))), (table_of(("2/3",)), table_of(("3/2",))),
            (table_of((1, 1)), table_of((1,), (0,))), (table_of((1, 1)), table_of(("1/2",), ("1/2",))),
            (table_of((1,), (2,)), table_of((1, 0))), (table_of((1,), (2,)), table_of((3, -1))),
            (table_of((1, 0), (0, 1)), table_of((1, 0), (0, 1))), (table_of((1, 0), (0, 1)), table_of((1, 0), (0, 5))),
            (table_of((1, 2), (3, 4)), table_of((-2, 1), ("3/2", "-1/2"))), (table_of((0, 1), (1, 0)), table_of((0, 0), (0, 1))),
            (table_of((0, 1), (1, 0)), table_of((2, 0), (0, "1/2"))),
        ):
            ins, outs = len(table), len(through)
            for cells in (0, 2):
                system = System(mixed(cells, cells, 1), mixed(cells, ins, 2), mixed(outs, cells, 3), through)
                inside = table_sum(unit(ins), table_scaled((-1, 1), product(table, through, ins)))
                if determinant(inside) != NOUGHT:
                    self.assertIsInstance(fed_back(system, table), System)
                    continue
                before = system.told()
                with self.assertRaises(Flat) as taken:
                    fed_back(system, table)
                numbers = taken.exception.numbers
                self.assertTrue(is_row(numbers, ins))
                self.assertNotEqual(numbers, [NOUGHT] * ins)
                self.assertEqual(times_row(table, times_row(through, numbers)), numbers)
                self.assertEqual(system.told(), before)

    def test_flat_just_where_there_is_no_inverse(self):
        seen = {True: 0, False: 0}
        for left in range(-2, 3):
            for right in range(-2, 3):
                system = System([], [], [[], []], table_of((1, left), (right, 2)))
                for table in (table_of((1, 0), (0, 0)), table_of((1, 1), (0, 1)), table_of((0, 1), (1, 0))):
                    inside = table_sum(unit(2), table_scaled((-1, 1), product(table, system.tables()[3], 2)))
                    flat = determinant(inside) == NOUGHT
                    seen[flat] += 1
                    self.assertEqual(isinstance(told_back(system, table), list), flat)
        self.assertTrue(min(seen.values()) > 5, seen)

    def test_what_is_handed_in_stays(self):
        system, table = system_of(2, 2, 1, 1), mixed(2, 1, 3)
        kept = deepcopy(table)
        told = fed_back(system, table)
        self.assertEqual(table, kept)
        before = told.told()
        spoil(table)
        self.assertEqual(told.told(), before)
        stay(self, [system], lambda one: fed_back(one, kept))

    def test_long_numbers(self):
        system, table = system_of(2, 2, 2, 1), [[(LONG, 3), (1, LONG)], [(5, 1), (LONG, LONG - 1)]]
        told = fed_back(system, table)
        self.assertEqual(fed_back(told, table_scaled((-1, 1), table)).told(), system.told())


def undoable(cells, lines, seed):
    """A system whose through has an inverse."""
    move, push, look, through = system_of(cells, lines, lines, seed).tables()
    return System(move, push, look, table_of(("-2/3",)) if lines == 1 else table_of((0, "1/2"), (3, -1)))


class Removers(unittest.TestCase):
    def test_by_hand(self):
        echo = System(table_of(("1/2",)), table_of((1,)), table_of(("1/2",)), table_of((1,)))
        self.assertEqual(remover(echo).tables(), (table_of((0,)), table_of((1,)), table_of(("-1/2",)), table_of((1,))))
        system = System(table_of((3,)), table_of((4,)), table_of((5,)), table_of((2,)))
        self.assertEqual(remover(system).tables(), (table_of((-7,)), table_of((2,)), table_of(("-5/2",)), table_of(("1/2",))))
        self.assertEqual(remover(System([], [], [[], []], table_of((0, 2), (1, 0)))).tables(),
                         ([], [], [[], []], table_of((0, 1), ("1/2", 0))))

    def test_where_it_has_the_state_that_the_system_has(self):
        for cells in range(9):
            for lines in (1, 2):
                system = undoable(cells, lines, cells)
                told = remover(system)
                self.assertEqual((told.cells(), told.ins(), told.outs()), (cells, lines, lines))
                for state in states(cells):
                    for given in inputs_of(lines):
                        (output,), end = run(system, state, [given])
                        self.assertEqual(run(told, state, [output]), ([given], end))

    def test_behind_its_system_it_brings_out_what_comes_in(self):
        for cells in range(5):
            for lines in (1, 2):
                system = undoable(cells, lines, cells + 2)
                both, rest, inputs = in_row(system, remover(system)), [NOUGHT] * (2 * cells), mixed(12, lines, 5)
                self.assertEqual(run(both, rest, inputs)[0], inputs)
                both = in_row(remover(system), system)
                self.assertEqual(run(both, rest, inputs)[0], inputs)

    def test_the_removers_remover(self):
        for cells in range(9):
            for lines in (1, 2):
                system = undoable(cells, lines, cells)
                self.assertEqual(remover(remover(system)).told(), system.told())

    def test_refusals(self):
        for cells in (0, 1, 3):
            for ins, outs in ((1, 2), (2, 1)):
                system = System(mixed(cells, cells, 1), mixed(cells, ins, 2), mixed(outs, cells, 3), noughts(outs, ins))
                with self.assertRaises(NoFit):
                    remover(system)
            for through in (table_of((0,)), table_of((0, 0), (0, 0)), table_of((1, 2), (2, 4)), table_of((0, 1), (0, 5)),
                            table_of((0, 0), (3, "1/2")), table_of(("1/2", "1/3"), ("-3/4", "-1/2"))):
                lines = len(through)
                system = System(mixed(cells, cells, 1), mixed(cells, lines, 2), mixed(lines, cells, 3), through)
                before = system.told()
                with self.assertRaises(Flat) as taken:
                    remover(system)
                numbers = taken.exception.numbers
                self.assertTrue(is_row(numbers, lines))
                self.assertNotEqual(numbers, [NOUGHT] * lines)
                self.assertEqual(times_row(through, numbers), [NOUGHT] * lines)
                # Sent in, they bring out at that turn just what noughts do.
                state = mixed(1, cells, 9)[0]
                self.assertEqual(run(system, state, [numbers])[0], run(system, state, [[NOUGHT] * lines])[0])
                self.assertEqual(system.told(), before)

    def test_the_system_stays(self):
        stay(self, [undoable(3, 2, 1)], remover)


class Together(unittest.TestCase):
    def test_fed_back_against_turn_by_turn_for_long(self):
        system, table = system_of(3, 2, 2, 8), mixed(2, 2, 9)
        told, state = fed_back(system, table), mixed(1, 3, 4)[0]
        inputs = mixed(10, 2, 6)
        outputs, end = run(told, state, inputs)
        for output, given in zip(outputs, inputs):
            back = times_row(table, output)
            inside = table_sum([given], [back])[0]
            (seen,), state = run(system, state, [inside])
            self.assertEqual(seen, output)
        self.assertEqual(state, end)

    def test_a_row_of_one_number(self):
        half = System([], [], [[]], table_of(("1/2",)))
        self.assertEqual(in_row(half, remover(half)).tables(), ([], [], [[]], table_of((1,))))
        self.assertEqual(run(beside(half, half), [], [row_of(4, 6)]), ([row_of(2, 3)], []))


if __name__ == "__main__":
    unittest.main()
