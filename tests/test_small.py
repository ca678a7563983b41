"""Points 70 to 74, and what points 6 and 7 say of them: the answers' table, first cells, the small form, the corner."""

import unittest

from boxes import DELAY, ECHO, EMPTY, GROWING, all_boxes, of_no_use
from echohouse.errors import NoTurns
from echohouse.small import carried, corner, first_cells, hankel, small
from echohouse.solving import determinant
from echohouse.steering import reach_count
from echohouse.systems import System, answers, run
from echohouse.tables import is_table, noughts, power, product, unit
from echohouse.telling import tell_count
from helpers import (
    LONG, NOUGHT, holds_point_six, lists_in, mixed, more_cells, other_cells, plain_firsts, plain_rank, sizes,
    system_of, table_of, times_row,
)


def long_table(system, rows, columns):
    """The answers' table for so many turns below and beside one another, number by number."""
    told = answers(system, rows + columns + 1)
    return [[told[k + l + 1][i][j] for l in range(columns) for j in range(system.ins())]
            for k in range(rows) for i in range(system.outs())]


def row_times(row, table, wide):
    return product([row], table, wide)[0]


class AnswersTable(unittest.TestCase):
    def test_by_hand(self):
        self.assertEqual(hankel(GROWING, 3), table_of((1, 1, 2), (1, 2, 3), (2, 3, 5)))
        self.assertEqual(hankel(DELAY, 2), table_of((0, 1), (1, 0)))
        self.assertEqual(hankel(ECHO, 2), table_of(("1/2", "1/4"), ("1/4", "1/8")))
        self.assertEqual(hankel(ECHO, 0), [])
        self.assertEqual(hankel(EMPTY, 3), noughts(3, 3))
        two = System(table_of((2,)), table_of((1, 3)), table_of((1,), (5,)), table_of((7, 7), (7, 7)))
        self.assertEqual(hankel(two, 1), table_of((1, 3), (5, 15)))
        self.assertEqual(hankel(two, 2), table_of((1, 3, 2, 6), (5, 15, 10, 30), (2, 6, 4, 12), (10, 30, 20, 60)))

    def test_against_the_answers(self):
        for cells, ins, outs in sizes():
            system = system_of(cells, ins, outs, 5)
            for many in range(9):
                told = hankel(system, many)
                self.assertTrue(is_table(told, many * outs, many * ins))
                self.assertEqual(told, long_table(system, many, many))

    def test_no_turns(self):
        for system in (EMPTY, ECHO, system_of(8, 2, 2, 1)):
            for many in (9, 10, 60, 10 ** 29, -1, -8, True, False, None, "3", "", [], [3], (3,), {}, 3.0, (3, 1)):
                with self.assertRaises(NoTurns):
                    hankel(system, many)

    def test_point_six(self):
        for system in (EMPTY, ECHO, GROWING, system_of(3, 2, 2, 1)):
            before = system.told()
            for many in (0, 1, 3):
                holds_point_six(self, lambda: hankel(system, many), [])
            self.assertEqual(system.told(), before)


class FirstCells(unittest.TestCase):
    def test_by_hand(self):
        self.assertEqual(first_cells(EMPTY), [])
        self.assertEqual(first_cells(ECHO), [(0, 0)])
        self.assertEqual(first_cells(DELAY), [(0, 0), (1, 0)])
        self.assertEqual(first_cells(GROWING), [(0, 0), (1, 0)])
        # The second line out sees the first cell at once, the first line out sees the second cell and then the first.
        two = System(table_of((0, 0), (1, 0)), table_of((1,), (0,)), table_of((0, 1), (1, 0)), table_of((0,), (0,)))
        self.assertEqual(first_cells(two), [(0, 0), (0, 1)])
        blind = System(table_of((0, 0), (1, 0)), table_of((1,), (0,)), table_of((0, 0), (0, 1)), table_of((0,), (0,)))
        self.assertEqual(first_cells(blind), [(0, 1), (1, 1)])
        same = System(table_of((0, 0), (1, 0)), table_of((1,), (0,)), table_of((0, 1), (0, 3)), table_of((0,), (0,)))
        self.assertEqual(first_cells(same), [(0, 0), (1, 0)])

    def test_nothing_pushed_or_looked_at(self):
        for ins, outs in ((1, 1), (2, 2)):
            self.assertEqual(first_cells(System(unit(3), noughts(3, ins), mixed(outs, 3, 1), mixed(outs, ins, 2))), [])
            self.assertEqual(first_cells(System(unit(3), mixed(3, ins, 1), noughts(outs, 3), mixed(outs, ins, 2))), [])
            # What is pushed is never looked at, and what is looked at is never pushed.
            apart = System(unit(2), [mixed(1, ins, 1)[0], [NOUGHT] * ins],
                           [[NOUGHT, number] for number in mixed(1, outs, 2)[0]], mixed(outs, ins, 2))
            self.assertEqual(first_cells(apart), [])

    def test_the_rows_that_are_no_sums_of_rows_ahead(self):
        for system in all_boxes():
            outs = system.outs()
            wanted = [(at // outs, at % outs) for at in plain_firsts(hankel(system, system.cells()))]
            told = first_cells(system)
            self.assertEqual(told, wanted)
            self.assertTrue(all(isinstance(cell, tuple) for cell in told))

    def test_the_same_for_any_greater_number(self):
        for system in all_boxes():
            outs = system.outs()
            for many in range(system.cells(), min(system.cells() + 3, 9)):
                firsts = [(at // outs, at % outs) for at in plain_firsts(hankel(system, many))]
                self.assertEqual(first_cells(system), firsts)

    def test_ahead_of_each_cell_its_turn_before(self):
        for system in all_boxes():
            told = first_cells(system)
            for turn, out in told:
                self.assertTrue(turn == 0 or (turn - 1, out) in told)

    def test_they_hang_on_the_answers_alone(self):
        for cells, ins, outs in sizes(5):
            system = system_of(cells, ins, outs, 7)
            for other in (other_cells(system), more_cells(system, 1, 2, 3), other_cells(more_cells(system, 2, 1, 4))):
                self.assertEqual(first_cells(other), first_cells(system))

    def test_point_six(self):
        for system in (EMPTY, ECHO, system_of(3, 2, 2, 1)):
            holds_point_six(self, lambda: first_cells(system), [])


class Small(unittest.TestCase):
    def test_by_hand(self):
        self.assertEqual(small(EMPTY).tables(), EMPTY.tables())
        self.assertEqual(small(ECHO).tables(), (
            table_of(("1/2",)), table_of(("1/2",)), table_of((1,)), table_of((1,))))
        self.assertEqual(small(DELAY).tables(), (
            table_of((0, 1), (0, 0)), table_of((0,), (1,)), table_of((1, 0)), table_of((0,))))
        self.assertEqual(small(GROWING).tables(), (
            table_of((0, 1), (1, 1)), table_of((1,), (1,)), table_of((1, 0)), table_of((0,))))
        same = System(table_of((0, 0), (1, 0)), table_of((1,), (0,)), table_of((0, 1), (0, 3)), table_of((4,), (5,)))
        self.assertEqual(small(same).tables(), (
            table_of((0, 1), (0, 0)), table_of((0,), (1,)), table_of((1, 0), (3, 0)), table_of((4,), (5,))))
        blind = System(table_of((0, 0), (1, 0)), table_of((1,), (0,)), table_of((0, 0), (0, 1)), table_of((4,), (5,)))
        self.assertEqual(small(blind).tables(), (
            table_of((0, 1), (0, 0)), table_of((0,), (1,)), table_of((0, 0), (1, 0)), table_of((4,), (5,))))
        two = System(table_of((2,)), table_of((1, 3)), table_of((1,), (5,)), table_of((7, 7), (7, 7)))
        self.assertEqual(small(two).tables(), (
            table_of((2,)), table_of((1, 3)), table_of((1,), (5,)), table_of((7, 7), (7, 7))))

    def test_two_lines_out_by_hand(self):
        # The lines out tell a + b and c; a takes c, b takes what comes in, c takes both a and what comes in.
        system = System(table_of((0, 0, 1), (0, 0, 0), (1, 0, 0)), table_of((0,), (1,), (1,)),
                        table_of((1, 1, 0), (0, 0, 1)), table_of((9,), (8,)))
        # By a single 1 the first one brings out 1, 1, 0, 1, 0 .., the second one 1, 0, 1, 0 .., from turn 1 on.
        self.assertEqual(answers(system, 5)[1:], [table_of((1,), (1,)), table_of((1,), (0,)), table_of((0,), (1,)),
                                                  table_of((1,), (0,))])
        self.assertEqual(first_cells(system), [(0, 0), (0, 1), (1, 1)])
        self.assertEqual(small(system).tables(), (
            table_of((0, 1, 0), (0, 0, 1), (0, 1, 0)), table_of((1,), (1,), (0,)), table_of((1, 0, 0), (0, 1, 0)),
            table_of((9,), (8,))))
        self.assertEqual(carried(system), table_of((1, 1, 0), (0, 0, 1), (1, 0, 0)))

    def test_without_cells_of_use(self):
        through = mixed(2, 2, 1)
        deaf = System(unit(3), noughts(3, 2), mixed(2, 3, 2), through)
        self.assertEqual(small(deaf).tables(), ([], [], [[], []], through))
        self.assertEqual(small(System([], [], [[], []], through)).tables(), ([], [], [[], []], through))

    def test_its_tables_row_by_row(self):
        for system in all_boxes():
            cells, ins, outs = system.cells(), system.ins(), system.outs()
            firsts = first_cells(system)
            # More rows and columns than are needed to tell them.
            rows = long_table(system, cells + 2, cells + 2)
            wide = (cells + 2) * ins
            basis = [rows[k * outs + i] for k, i in firsts]
            self.assertEqual(plain_rank(basis), len(firsts))
            form = small(system)
            self.assertIsInstance(form, System)
            self.assertEqual((form.cells(), form.ins(), form.outs()), (len(firsts), ins, outs))
            move, push, look, through = form.tables()
            told = answers(system, cells + 1)
            self.assertEqual(through, system.tables()[3])
            self.assertEqual(push, [told[k + 1][i] for k, i in firsts])
            for i in range(outs):
                self.assertEqual(row_times(look[i], basis, wide), rows[i])
            for at, (k, i) in enumerate(firsts):
                self.assertEqual(row_times(move[at], basis, wide), rows[(k + 1) * outs + i])

    def test_as_many_answers_as_both_have_cells_and_two_more(self):
        for system in all_boxes():
            form = small(system)
            many = system.cells() + form.cells() + 2
            self.assertEqual(answers(form, many), answers(system, many))

    def test_its_own_small_form(self):
        for system in all_boxes():
            form = small(system)
            self.assertEqual(small(form).told(), form.told())
            self.assertEqual(first_cells(form), first_cells(system))

    def test_one_for_all_alike(self):
        for cells, ins, outs in sizes(4):
            system = system_of(cells, ins, outs, 9)
            wanted = small(system).told()
            for unseen, unmoved in ((0, 0), (1, 0), (0, 2), (2, 2)):
                self.assertEqual(small(other_cells(more_cells(system, unseen, unmoved, 2))).told(), wanted)

    def test_the_fewest_cells_already(self):
        for cells, ins, outs in sizes():
            system = system_of(cells, ins, outs, 6)
            self.assertEqual(reach_count(system), cells)
            self.assertEqual(tell_count(system), cells)
            form = small(system)
            self.assertEqual(form.cells(), cells)
            self.assertEqual(reach_count(form), cells)
            self.assertEqual(tell_count(form), cells)

    def test_all_cells_of_use_in_every_small_form(self):
        for system in of_no_use():
            form = small(system)
            self.assertEqual(reach_count(form), form.cells())
            self.assertEqual(tell_count(form), form.cells())
            self.assertTrue(form.cells() < system.cells())

    def test_its_state_is_what_the_first_cells_would_bring_out(self):
        for system in all_boxes():
            cells, ins = system.cells(), system.ins()
            form = small(system)
            inputs = mixed(5, ins, 4)
            here = run(system, [NOUGHT] * cells, inputs)[1]
            there = run(form, [NOUGHT] * form.cells(), inputs)[1]
            later = run(system, here, noughts(cells + 1, ins))[0]
            self.assertEqual(there, [later[k][i] for k, i in first_cells(system)])

    def test_point_six(self):
        for system in (EMPTY, ECHO, system_of(3, 2, 2, 1), of_no_use()[-1]):
            before = system.told()
            told = small(system).told()
            self.assertEqual(small(system).told(), told)
            self.assertEqual(small(System(*system.tables())).told(), told)
            self.assertEqual(system.told(), before)

    def test_long_numbers(self):
        system = System(table_of((0, 0), (1, 0)), [[(LONG, 3)], [NOUGHT]], [[NOUGHT, (1, LONG)]], [[(LONG, 2)]])
        self.assertEqual(small(system).tables(), (
            table_of((0, 1), (0, 0)), table_of((0,), ("1/3",)), table_of((1, 0)), [[(LONG, 2)]]))
        move = [[(LONG, 2), (3, LONG)], [(5, 7), (LONG, 11)]]
        system = System(move, table_of((1,), (2,)), table_of((1, 3)), table_of((0,)))
        self.assertEqual(answers(small(system), 6), answers(system, 6))


class Carried(unittest.TestCase):
    def test_by_hand(self):
        self.assertEqual(carried(EMPTY), [])
        self.assertEqual(carried(ECHO), table_of(("1/2",)))
        self.assertEqual(carried(DELAY), table_of((0, 1), (1, 0)))
        self.assertEqual(carried(GROWING), table_of((1, 0), (1, 1)))
        self.assertEqual(carried(System(unit(3), noughts(3, 1), mixed(1, 3, 2), noughts(1, 1))), [])

    def test_looks_at_powers_of_the_move(self):
        for system in all_boxes():
            move, push, look, through = system.tables()
            cells = system.cells()
            table = carried(system)
            firsts = first_cells(system)
            self.assertTrue(is_table(table, len(firsts), cells))
            self.assertEqual(table, [product(look, power(move, k), cells)[i] for k, i in firsts])
            self.assertEqual(product(table, push, system.ins()), small(system).tables()[1])

    def test_what_it_makes_of_states_that_runs_from_rest_come_to(self):
        for system in all_boxes():
            move, push, look, through = system.tables()
            form_move, form_push, form_look, form_through = small(system).tables()
            table = carried(system)
            for many in (0, 1, 2, 9):
                inputs = mixed(many, system.ins(), many + 1)
                state = run(system, [NOUGHT] * system.cells(), inputs)[1]
                made = times_row(table, state)
                self.assertEqual(run(small(system), [NOUGHT] * len(table), inputs)[1], made)
                self.assertEqual(times_row(table, times_row(move, state)), times_row(form_move, made))
                self.assertEqual(times_row(look, state), times_row(form_look, made))

    def test_point_six(self):
        for system in (EMPTY, ECHO, system_of(3, 2, 2, 1), of_no_use()[-1]):
            before = system.told()
            holds_point_six(self, lambda: carried(system), [])
            holds_point_six(self, lambda: carried(System(*system.tables())), [])
            self.assertEqual(system.told(), before)


class Corner(unittest.TestCase):
    def test_by_hand(self):
        self.assertEqual(corner(EMPTY), ([], []))
        self.assertEqual(corner(ECHO), ([(0, 0)], [(0, 0)]))
        self.assertEqual(corner(DELAY), ([(0, 0), (1, 0)], [(0, 0), (1, 0)]))
        two = System(table_of((2,)), table_of((0, 3)), table_of((0,), (5,)), table_of((7, 7), (7, 7)))
        self.assertEqual(corner(two), ([(0, 1)], [(0, 1)]))

    def test_rows_and_columns(self):
        for system in all_boxes():
            ins, outs = system.ins(), system.outs()
            told = corner(system)
            self.assertIsInstance(told, tuple)
            rows, columns = told
            self.assertEqual(rows, first_cells(system))
            self.assertEqual(len(columns), len(rows))
            self.assertTrue(all(isinstance(place, tuple) for place in rows + columns))
            table = hankel(system, system.cells())
            part = [table[k * outs + i] for k, i in rows]
            turned_part = [[row[at] for row in part] for at in range(system.cells() * ins)]
            self.assertEqual(columns, [(at // ins, at % ins) for at in plain_firsts(turned_part)])
            square = [[row[l * ins + j] for l, j in columns] for row in part]
            self.assertNotEqual(determinant(square), NOUGHT)

    def test_point_six(self):
        for system in (EMPTY, ECHO, system_of(3, 2, 2, 1), System(unit(2), noughts(2, 1), unit(2), noughts(2, 1))):
            holds_point_six(self, lambda: corner(system), [])
            self.assertEqual(len(lists_in(corner(system))), 2)


if __name__ == "__main__":
    unittest.main()
