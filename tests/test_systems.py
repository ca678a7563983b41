"""Points 40 to 43, and what point 6 says of them: systems, their runs and their answers."""

import unittest
from copy import deepcopy

from echohouse.errors import NoFit, NoTable, NoTurns, TooMany
from echohouse.fracs import frac
from echohouse.systems import System, answers, run
from echohouse.tables import is_row, is_table, noughts, power, product, row_sum
from helpers import (
    LONG, NOUGHT, NO_LISTS, holds_point_six, lists_in, mixed, no_rows, no_tables, plain_run, row_of, sizes, spoil,
    system_of, table_of, times_row,
)

# The echo of a half: the cell holds what came out, and half of it comes out once more.
ECHO = (table_of(("1/2",)), table_of((1,)), table_of(("1/2",)), table_of((1,)))
# Two lines in, two lines out, two cells.
TWO = (table_of((0, 1), ("1/2", 0)), table_of((1, 0), (0, 2)), table_of((1, 1), (0, -1)), table_of((0, 3), ("1/3", 0)))


def four(cells, ins, outs, seed):
    return [mixed(cells, cells, seed), mixed(cells, ins, seed + 1), mixed(outs, cells, seed + 2),
            mixed(outs, ins, seed + 3)]


class Made(unittest.TestCase):
    def test_of_all_sizes(self):
        for cells, ins, outs in sizes():
            tables = four(cells, ins, outs, cells)
            system = System(*tables)
            self.assertEqual((system.cells(), system.ins(), system.outs()), (cells, ins, outs))
            self.assertIsInstance(system.tables(), tuple)
            self.assertEqual(system.tables(), tuple(tables))
            self.assertEqual(system.told(), tuple(tuple(tuple(row) for row in table) for table in tables))

    def test_without_cells(self):
        system = System([], [], [[], []], table_of((1,), (2,)))
        self.assertEqual((system.cells(), system.ins(), system.outs()), (0, 1, 2))
        self.assertEqual(system.told(), ((), (), ((), ()), (((1, 1),), ((2, 1),))))
        self.assertEqual(system.tables(), ([], [], [[], []], table_of((1,), (2,))))

    def test_no_tables_of_whatever_kind(self):
        for cells, ins, outs in sizes(2) + [(8, 2, 1)]:
            tables = four(cells, ins, outs, 3)
            shapes = ((cells, cells), (cells, ins), (outs, cells), (outs, ins))
            for place, (many, wide) in enumerate(shapes):
                for thing in no_tables(many, wide):
                    # A through of another size may be that of another system.
                    handed = tables[:place] + [thing] + tables[place + 1:]
                    if not fits(*handed):
                        with self.assertRaises(NoTable):
                            System(*handed)

    def test_sizes_that_do_not_fit(self):
        for shapes in (
            ((2, 2), (1, 1), (1, 2), (1, 1)), ((2, 2), (2, 1), (1, 1), (1, 1)), ((2, 3), (2, 1), (1, 2), (1, 1)),
            ((3, 2), (3, 1), (1, 3), (1, 1)), ((2, 2), (2, 2), (1, 2), (1, 1)), ((2, 2), (2, 1), (2, 2), (1, 1)),
            ((2, 2), (2, 1), (1, 2), (2, 1)), ((2, 2), (2, 1), (1, 2), (1, 2)), ((0, 0), (1, 1), (1, 0), (1, 1)),
            ((0, 0), (0, 1), (1, 1), (1, 1)), ((1, 0), (1, 1), (1, 1), (1, 1)), ((1, 1), (0, 1), (1, 1), (1, 1)),
        ):
            with self.assertRaises(NoTable):
                System(*[mixed(many, wide, 1) for many, wide in shapes])

    def test_more_lines_than_two_or_none(self):
        for cells in (0, 1, 2, 9):
            for ins, outs in ((3, 1), (1, 3), (3, 3), (0, 1), (1, 0), (0, 0), (2, 3), (40, 1)):
                with self.assertRaises(NoTable):
                    System(*four(cells, ins, outs, 1))

    def test_too_many_cells(self):
        System(*four(8, 2, 2, 1))
        for cells in (9, 10, 40):
            with self.assertRaises(TooMany):
                System(*four(cells, 1, 2, 1))

    def test_no_table_ahead_of_too_many(self):
        tables = four(9, 1, 1, 1)
        for place in range(4):
            wrong = deepcopy(tables)
            wrong[place][0][0] = (2, 4)
            with self.assertRaises(NoTable):
                System(*wrong)
            wrong = deepcopy(tables)
            wrong[place] = tuple(wrong[place])
            with self.assertRaises(NoTable):
                System(*wrong)
            wrong = deepcopy(tables)
            wrong[place].append(wrong[place][0])
            with self.assertRaises(NoTable):
                System(*wrong)

    def test_things_all_over(self):
        for thing in NO_LISTS + ([[]], [[[]]], [None], [[None]], [()]):
            with self.assertRaises(NoTable):
                System(thing, thing, thing, thing)

    def test_long_numbers(self):
        tables = ([[(LONG, 1)]], [[(1, LONG)]], [[(-LONG, 2)]], [[(3, LONG)]])
        self.assertEqual(System(*tables).tables(), tables)


def fits(move, push, look, through):
    """Whether the four are tables of one system, asked plainly."""
    for ins in (1, 2):
        for outs in (1, 2):
            if isinstance(move, list) and is_table(through, outs, ins):
                many = len(move)
                return is_table(move, many, many) and is_table(push, many, ins) and is_table(look, outs, many)
    return False


class NeverChanged(unittest.TestCase):
    def test_by_what_was_handed_in(self):
        for cells, ins, outs in sizes(3):
            tables = four(cells, ins, outs, 7)
            kept = deepcopy(tables)
            system = System(*tables)
            self.assertEqual(tables, kept)
            spoil(tables)
            self.assertEqual(system.tables(), tuple(kept))
            self.assertEqual((system.cells(), system.ins(), system.outs()), (cells, ins, outs))

    def test_by_what_was_told(self):
        for cells, ins, outs in sizes(3):
            system = system_of(cells, ins, outs, 7)
            told, tables = system.told(), deepcopy(system.tables())
            spoil(system.tables())
            for table in system.tables():
                table.clear()
            self.assertEqual(system.tables(), tables)
            self.assertEqual(system.told(), told)
            self.assertEqual(system_of(cells, ins, outs, 7).told(), told)

    def test_new_lists_each_time(self):
        system = system_of(2, 2, 2, 1)
        one, other = system.tables(), system.tables()
        ids = [id(found) for tables in (one, other) for found in lists_in(tables)]
        self.assertEqual(len(ids), len(set(ids)))

    def test_equal_tables_just_where_told_is_equal(self):
        told = system_of(2, 1, 2, 1).told()
        self.assertEqual(told, System(*four(2, 1, 2, 1)).told())
        for place in range(4):
            tables = four(2, 1, 2, 1)
            tables[place][-1][-1] = (77, 5)
            self.assertNotEqual(System(*tables).told(), told)
        for thing in told:
            self.assertIsInstance(thing, tuple)
            self.assertTrue(all(isinstance(row, tuple) for row in thing))


class Runs(unittest.TestCase):
    def test_by_hand(self):
        self.assertEqual(run(System(*ECHO), row_of(0), table_of((1,), (0,), (0,), (4,))),
                         (table_of((1,), ("1/2",), ("1/4",), ("33/8",)), row_of("33/8")))
        self.assertEqual(run(System(*TWO), row_of(1, 2), table_of((3, 4), (0, "1/2"))),
                         (table_of((15, -1), ("15", "-17/2")), row_of("17/2", "7/2")))
        self.assertEqual(run(System([], [], [[], []], table_of((2,), (3,))), [], table_of((1,), (5,))),
                         (table_of((2, 3), (10, 15)), []))

    def test_no_inputs(self):
        for cells, ins, outs in sizes():
            start = mixed(1, cells, 5)[0]
            self.assertEqual(run(system_of(cells, ins, outs, 1), start, []), ([], start))

    def test_against_a_plain_run(self):
        for cells, ins, outs in sizes():
            system = system_of(cells, ins, outs, cells)
            for many in (1, 2, 5):
                start, inputs = mixed(1, cells, 8)[0], mixed(many, ins, 9)
                told = run(system, start, inputs)
                self.assertIsInstance(told, tuple)
                self.assertEqual(told, plain_run(system.tables(), start, inputs))
                self.assertTrue(is_table(told[0], many, outs))
                self.assertTrue(is_row(told[1], cells))

    def test_sixty_turns(self):
        system, start, inputs = system_of(4, 2, 2, 1), mixed(1, 4, 2)[0], mixed(60, 2, 3)
        self.assertEqual(run(system, start, inputs), plain_run(system.tables(), start, inputs))
        outputs, end = run(System(*ECHO), [NOUGHT], [[(1, 1)]] + [[NOUGHT]] * 59)
        self.assertEqual(outputs, [[(1, 2 ** turn)] for turn in range(60)])
        self.assertEqual(end, [(1, 2 ** 59)])

    def test_long_numbers(self):
        outputs, end = run(System(*ECHO), [(LONG, 1)], [[(1, LONG)]])
        self.assertEqual((outputs, end), ([[frac(LONG * LONG + 2, 2 * LONG)]], [frac(LONG * LONG + 2, 2 * LONG)]))

    def test_refusals_in_their_order(self):
        for cells, ins, outs in sizes(2) + [(8, 2, 1)]:
            system = system_of(cells, ins, outs, 1)
            start, given = mixed(1, cells, 1)[0], mixed(1, ins, 2)[0]
            before = run(system, start, [given])
            for thing in no_rows(cells):
                for inputs in ([given], [], [None], None, [given] * 61):
                    with self.assertRaises(NoFit):
                        run(system, thing, inputs)
            for inputs in (None, 0, "", "ab", (), (given,), {}, {0: given}, True, [given] * 61, [None] * 61):
                with self.assertRaises(NoTurns):
                    run(system, start, inputs)
            for thing in no_rows(ins):
                for inputs in ([thing], [given, thing], [thing] + [given] * 59):
                    with self.assertRaises(NoFit):
                        run(system, start, inputs)
            self.assertEqual(run(system, start, [given]), before)


class Answers(unittest.TestCase):
    def test_by_hand(self):
        self.assertEqual(answers(System(*ECHO), 4), [table_of((1,)), table_of(("1/2",)), table_of(("1/4",)), table_of(("1/8",))])
        self.assertEqual(answers(System(*TWO), 3), [
            table_of((0, 3), ("1/3", 0)), table_of((1, 2), (0, -2)), table_of(("1/2", 2), ("-1/2", 0))])
        self.assertEqual(answers(System([], [], [[], []], table_of((2,), (3,))), 3),
                         [table_of((2,), (3,)), table_of((0,), (0,)), table_of((0,), (0,))])

    def test_look_times_a_power_times_push(self):
        for cells, ins, outs in sizes():
            system = system_of(cells, ins, outs, cells + 3)
            move, push, look, through = system.tables()
            told = answers(system, 7)
            self.assertEqual(told[0], through)
            for k in range(1, 7):
                self.assertEqual(told[k], product(look, product(power(move, k - 1), push, ins), ins))

    def test_how_many(self):
        system = system_of(2, 2, 1, 1)
        whole = answers(system, 60)
        self.assertEqual(len(whole), 60)
        for many in range(61):
            self.assertEqual(answers(system, many), whole[:many])
        for many in (-1, 61, 62, 1000, 10 ** 29, None, True, False, "3", 3.0, (3,), [3], (3, 1), b"3", {}):
            with self.assertRaises(NoTurns):
                answers(system, many)

    def test_a_single_one_sent_in(self):
        for cells, ins, outs in sizes(3):
            system = system_of(cells, ins, outs, 2)
            told = answers(system, 6)
            for line in range(ins):
                first = [(1, 1) if place == line else NOUGHT for place in range(ins)]
                outputs, end = run(system, [NOUGHT] * cells, [first] + noughts(5, ins))
                self.assertEqual(outputs, [[row[line] for row in table] for table in told])

    def test_a_run_from_rest_is_a_sum_of_answers(self):
        for cells, ins, outs in sizes(4):
            system = system_of(cells, ins, outs, 6)
            inputs = mixed(8, ins, 11)
            told = answers(system, 8)
            outputs, end = run(system, [NOUGHT] * cells, inputs)
            for turn in range(8):
                total = [NOUGHT] * outs
                for k in range(turn + 1):
                    total = row_sum(total, times_row(told[k], inputs[turn - k]))
                self.assertEqual(outputs[turn], total)


class OwnLists(unittest.TestCase):
    def test_point_six(self):
        for cells, ins, outs in sizes(3):
            system = system_of(cells, ins, outs, 5)
            for many in (0, 1, 4):
                holds_point_six(self, lambda start, inputs: run(system, start, inputs),
                                [mixed(1, cells, 1)[0], mixed(many, ins, 2)])
                holds_point_six(self, lambda number: answers(system, number), [many])
                holds_point_six(self, lambda tables, start, inputs: run(System(*tables), start, inputs),
                                [four(cells, ins, outs, 5), mixed(1, cells, 1)[0], mixed(many, ins, 2)])
                holds_point_six(self, lambda tables: answers(System(*tables), many), [four(cells, ins, outs, 5)])


if __name__ == "__main__":
    unittest.main()
