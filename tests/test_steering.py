"""Points 60, 61, 63 and 64, and what points 6 and 7 say of them: the reach table, and states steered to."""

import unittest
from copy import deepcopy

from echohouse.errors import NoFit
from echohouse.joins import beside
from echohouse.steering import Finding, Inputs, Unmoved, reach_count, reach_table, steered
from echohouse.systems import System, run
from echohouse.tables import is_row, is_table, noughts, power, product, turned, unit, weighed, widened
from helpers import (
    LONG, NOUGHT, holds_point_six, mixed, no_rows, no_tables, other_cells, plain_rank, row_of, sizes, spoil, system_of,
    table_of, times_row,
)

# The second cell is never moved.
STUCK = System(table_of(("1/2", 0), (0, 3)), table_of((1,), (0,)), table_of((1, 1)), table_of((0,)))
# Both cells always hold the same.
SAME = System(table_of((0, 1), (1, 0)), table_of((1,), (1,)), table_of((1, 0)), table_of((0,)))
# What comes in goes through three cells.
CHAIN = System(table_of((0, 0, 0), (1, 0, 0), (0, 1, 0)), table_of((1,), (0,), (0,)), table_of((0, 0, 1)), table_of((0,)))
EMPTY = System([], [], [[]], table_of((1,)))


def deaf(cells, ins):
    """A system that no input moves."""
    return System(mixed(cells, cells, 5), noughts(cells, ins), mixed(1, cells, 6), noughts(1, ins))


def partly(cells, moved, ins):
    """A system of which only the first cells are moved, seen in other numbers."""
    move = mixed(cells, cells, 8)
    for row in move[moved:]:
        row[:moved] = [NOUGHT] * moved
    push = mixed(moved, ins, 9) + noughts(cells - moved, ins)
    return other_cells(System(move, push, mixed(1, cells, 3), noughts(1, ins)))


def systems():
    found = [STUCK, SAME, CHAIN, EMPTY] + [system_of(*size, 3) for size in sizes()]
    found += [deaf(cells, ins) for cells in (0, 1, 4) for ins in (1, 2)]
    found += [partly(cells, moved, ins) for cells, moved in ((2, 1), (4, 2), (5, 4), (8, 3), (8, 7)) for ins in (1, 2)]
    return found


def aims(system):
    cells, ins = system.cells(), system.ins()
    rest = [NOUGHT] * cells
    return [rest, run(system, rest, mixed(cells, ins, 2))[1], run(system, rest, mixed(2, ins, 4))[1]] + \
        unit(cells) + mixed(2, cells, 7)


class Reach(unittest.TestCase):
    def test_by_hand(self):
        self.assertEqual(reach_table(STUCK), table_of((1, "1/2"), (0, 0)))
        self.assertEqual(reach_table(SAME), table_of((1, 1), (1, 1)))
        self.assertEqual(reach_table(CHAIN), unit(3))
        self.assertEqual([reach_count(system) for system in (STUCK, SAME, CHAIN, EMPTY)], [1, 1, 3, 0])
        two = System(table_of((1, 2), (3, 4)), table_of((1, 0), (0, "1/2")), table_of((0, 0)), table_of((0, 0)))
        self.assertEqual(reach_table(two), table_of((1, 0, 1, 1), (0, "1/2", 3, 2)))
        self.assertEqual(reach_count(two), 2)

    def test_without_cells(self):
        for ins in (1, 2):
            for outs in (1, 2):
                self.assertEqual(reach_table(system_of(0, ins, outs, 1)), [])
                self.assertEqual(reach_count(system_of(0, ins, outs, 1)), 0)

    def test_push_and_move_times_push_side_by_side(self):
        for system in systems():
            move, push, look, through = system.tables()
            cells, ins = system.cells(), system.ins()
            wanted = noughts(cells, 0)
            for k in range(cells):
                wanted = widened(wanted, product(power(move, k), push, ins))
            told = reach_table(system)
            self.assertTrue(is_table(told, cells, cells * ins))
            self.assertEqual(told, wanted)
            self.assertEqual(reach_count(system), plain_rank(wanted))

    def test_counts(self):
        self.assertEqual([reach_count(deaf(cells, 2)) for cells in (0, 1, 4)], [0, 0, 0])
        self.assertEqual([reach_count(partly(cells, moved, 1)) for cells, moved in ((2, 1), (4, 2), (8, 3), (8, 7))],
                         [1, 2, 3, 7])

    def test_new_lists(self):
        for system in (STUCK, SAME, CHAIN, EMPTY, system_of(3, 2, 1, 1)):
            holds_point_six(self, lambda: reach_table(system), [])


class Steered(unittest.TestCase):
    def test_by_hand(self):
        self.assertEqual(steered(CHAIN, row_of(1, 2, 3)).sent, table_of((3,), (2,), (1,)))
        self.assertEqual(steered(EMPTY, []).sent, [])
        told = steered(STUCK, row_of(1, 2))
        self.assertIsInstance(told, Unmoved)
        self.assertEqual(plain_rank([told.weights, row_of(0, 1)]), 1)
        told = steered(SAME, row_of(1, 2))
        self.assertEqual(plain_rank([told.weights, row_of(1, -1)]), 1)
        self.assertIsInstance(steered(SAME, row_of("2/3", "2/3")), Inputs)

    def test_just_one_of_the_two(self):
        seen = {True: 0, False: 0}
        for system in systems():
            cells, ins = system.cells(), system.ins()
            move, push, look, through = system.tables()
            table = reach_table(system)
            for aim in aims(system):
                there = plain_rank([row + [number] for row, number in zip(table, aim)]) == plain_rank(table)
                told = steered(system, aim)
                seen[there] += 1
                self.assertIsInstance(told, Inputs if there else Unmoved)
                self.assertIs(told.found(), there)
                if there:
                    self.assertTrue(is_table(told.sent, cells, ins))
                    self.assertEqual(run(system, [NOUGHT] * cells, told.sent)[1], aim)
                else:
                    self.assertTrue(is_row(told.weights, cells))
                    self.assertNotEqual(weighed(told.weights, aim), NOUGHT)
                    for k in range(cells + 2):
                        moved = turned(product(power(move, k), push, ins), ins)
                        self.assertEqual(times_row(moved, told.weights), [NOUGHT] * ins)
                self.assertIs(told.shows(system, aim), True)
        self.assertTrue(min(seen.values()) > 30, seen)

    def test_all_states_just_where_the_reach_count_is_full(self):
        for system in systems():
            cells = system.cells()
            full = all(steered(system, aim).found() for aim in unit(cells))
            self.assertEqual(full, reach_count(system) == cells)

    def test_no_input_moves_the_weights(self):
        for system in (STUCK, SAME, partly(4, 2, 2), deaf(4, 1)):
            cells, ins = system.cells(), system.ins()
            for aim in aims(system):
                told = steered(system, aim)
                if not told.found():
                    for many in (1, 3, 12):
                        end = run(system, [NOUGHT] * cells, mixed(many, ins, many))[1]
                        self.assertEqual(weighed(told.weights, end), NOUGHT)

    def test_no_fit(self):
        for system in (STUCK, EMPTY, CHAIN, system_of(8, 2, 2, 1)):
            for thing in no_rows(system.cells()):
                with self.assertRaises(NoFit):
                    steered(system, thing)

    def test_point_six(self):
        for system in (STUCK, SAME, CHAIN, EMPTY, system_of(3, 2, 1, 1)):
            before = system.told()
            for aim in aims(system):
                holds_point_six(self, lambda row: contents(steered(system, row)), [list(aim)])
                holds_point_six(self, lambda row: contents(steered(System(*system.tables()), row)), [list(aim)])
            self.assertEqual(system.told(), before)

    def test_long_numbers(self):
        aim = [(LONG, 3), (1, LONG), (5, 7)]
        system = system_of(3, 1, 1, 2)
        self.assertEqual(run(system, [NOUGHT] * 3, steered(system, aim).sent)[1], aim)
        self.assertEqual(steered(CHAIN, aim).sent, [[number] for number in aim[::-1]])


def contents(answer):
    return answer.sent if answer.found() else answer.weights


class Findings(unittest.TestCase):
    def test_kinds(self):
        self.assertTrue(issubclass(Inputs, Finding) and issubclass(Unmoved, Finding))
        self.assertFalse(issubclass(Inputs, Unmoved) or issubclass(Unmoved, Inputs))
        self.assertIs(Inputs([]).found(), True)
        self.assertIs(Unmoved([]).found(), False)

    def test_inputs_right_and_wrong(self):
        self.assertIs(Inputs(table_of((3,), (2,), (1,))).shows(CHAIN, row_of(1, 2, 3)), True)
        for sent in (table_of((1,), (2,), (3,)), table_of((3,), (2,)), table_of((0,), (3,), (2,), (1,)),
                     table_of((3,), (2,), (0,)), table_of((3, 0), (2, 0), (1, 0)), [], table_of((3, 2, 1))):
            self.assertIs(Inputs(sent).shows(CHAIN, row_of(1, 2, 3)), False)
        for sent in (table_of((0,), (0,)), table_of((2,), (-1,))):
            self.assertIs(Inputs(sent).shows(STUCK, row_of(0, 0)), True)
        self.assertIs(Inputs(table_of((2,), (-1,))).shows(STUCK, row_of(0, 1)), False)
        self.assertIs(Inputs([]).shows(EMPTY, []), True)
        self.assertIs(Inputs([[]]).shows(EMPTY, []), False)
        self.assertIs(Inputs(table_of((1,))).shows(EMPTY, []), False)

    def test_inputs_by_two_lines(self):
        system = beside(CHAIN, STUCK)
        sent = table_of((0, 0), (0, 0), (3, 0), (2, 2), (1, -1))
        self.assertIs(Inputs(sent).shows(system, row_of(1, 2, 3, 0, 0)), True)
        self.assertIs(Inputs(sent).shows(system, row_of(1, 2, 3, 0, 1)), False)

    def test_weights_right_and_wrong(self):
        for weights in (row_of(0, 1), row_of(0, "-7/2")):
            self.assertIs(Unmoved(weights).shows(STUCK, row_of(5, 1)), True)
            self.assertIs(Unmoved(weights).shows(STUCK, row_of(5, 0)), False)
        for weights in (row_of(0, 0), row_of(1, 0), row_of(1, 1), row_of(0, 1, 0), row_of(0), []):
            self.assertIs(Unmoved(weights).shows(STUCK, row_of(5, 1)), False)
        self.assertIs(Unmoved(row_of(1, -1)).shows(SAME, row_of(5, 1)), True)
        self.assertIs(Unmoved([]).shows(EMPTY, []), False)

    def test_weights_that_a_later_turn_moves(self):
        for weights in unit(3) + mixed(2, 3, 4):
            self.assertIs(Unmoved(weights).shows(CHAIN, row_of(1, 1, 1)), False)
        # The second line in moves what the first does not.
        system = System(table_of((0, 0), (0, 0)), table_of((1, 0), (0, 1)), table_of((1, 0)), table_of((0, 0)))
        for weights in unit(2):
            self.assertIs(Unmoved(weights).shows(system, row_of(1, 1)), False)

    def test_made_of_anything(self):
        for system in (STUCK, CHAIN, EMPTY, system_of(2, 2, 1, 1)):
            cells, ins = system.cells(), system.ins()
            for thing in no_tables(cells, ins):
                self.assertIs(Inputs(thing).found(), True)
                for aim in aims(system):
                    self.assertIs(Inputs(thing).shows(system, aim), False)
            for thing in no_rows(cells):
                self.assertIs(Unmoved(thing).found(), False)
                for aim in aims(system):
                    self.assertIs(Unmoved(thing).shows(system, aim), False)

    def test_fields(self):
        for thing in (table_of((1,)), row_of(1, 2), None, (1, 2), "text", [], [[]], {"a": 1}):
            self.assertEqual(Inputs(thing).sent, thing)
            self.assertEqual(Unmoved(thing).weights, thing)

    def test_no_fit(self):
        for system in (STUCK, EMPTY, CHAIN):
            cells = system.cells()
            for answer in (Inputs(noughts(cells, 1)), Inputs(None), Unmoved([NOUGHT] * cells), Unmoved("text")):
                for thing in no_rows(cells):
                    with self.assertRaises(NoFit):
                        answer.shows(system, thing)

    def test_point_six(self):
        for answer, aim in ((Inputs(table_of((3,), (2,), (1,))), row_of(1, 2, 3)), (Unmoved(row_of(0, 1, 0)), row_of(1, 2, 3))):
            kept = deepcopy(contents(answer))
            before = CHAIN.told()
            told = answer.shows(CHAIN, aim)
            self.assertEqual(contents(answer), kept)
            self.assertEqual(aim, row_of(1, 2, 3))
            self.assertEqual(CHAIN.told(), before)
            self.assertEqual(answer.shows(CHAIN, aim), told)
            spoil(aim)
            self.assertEqual(answer.shows(CHAIN, row_of(1, 2, 3)), told)


if __name__ == "__main__":
    unittest.main()
