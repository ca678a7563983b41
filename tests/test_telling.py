"""Points 60, 62, 63 and 64, and what points 6 and 7 say of them: the tell table, and weights told or not."""

import unittest
from copy import deepcopy

from echohouse.errors import NoFit
from echohouse.steering import Finding, Inputs, Unmoved, reach_count, reach_table
from echohouse.systems import System, run
from echohouse.tables import is_row, is_table, noughts, power, product, turned, unit, weighed
from echohouse.telling import Sums, Unseen, tell_count, tell_table, told_by
from helpers import (
    LONG, NOUGHT, holds_point_six, mixed, no_rows, no_tables, other_cells, plain_rank, row_of, sizes, spoil, system_of,
    table_of, turned_over,
)

# Nobody looks at the second cell, ever.
HIDDEN = System(table_of(("1/2", 0), (1, 3)), table_of((1,), (0,)), table_of((1, 0)), table_of((0,)))
# Only the sum of both cells is seen.
TOGETHER = System(table_of((0, 1), (1, 0)), table_of((1,), (0,)), table_of((1, 1)), table_of((0,)))
# The first cell is seen at once, the second one turn later, the third two turns later.
CHAIN = System(table_of((0, 1, 0), (0, 0, 1), (0, 0, 0)), table_of((0,), (0,), (1,)), table_of((1, 0, 0)), table_of((4,)))
EMPTY = System([], [], [[]], table_of((1,)))


def blind(cells, outs):
    """A system at which nobody looks."""
    return System(mixed(cells, cells, 5), mixed(cells, 1, 6), noughts(outs, cells), mixed(outs, 1, 7))


def partly(cells, seen, outs):
    """A system of which only the first cells are seen, told by other cells."""
    move = mixed(cells, cells, 8)
    for row in move[:seen]:
        row[seen:] = [NOUGHT] * (cells - seen)
    look = [row + [NOUGHT] * (cells - seen) for row in mixed(outs, seen, 9)]
    return other_cells(System(move, mixed(cells, 1, 3), look, mixed(outs, 1, 4)))


def systems():
    found = [HIDDEN, TOGETHER, CHAIN, EMPTY] + [system_of(*size, 3) for size in sizes()]
    found += [blind(cells, outs) for cells in (0, 1, 4, 8) for outs in (1, 2)]
    found += [partly(cells, seen, outs) for cells, seen in ((2, 1), (4, 2), (5, 4), (8, 3), (8, 7)) for outs in (1, 2)]
    return found


def weighings(system):
    cells, outs = system.cells(), system.outs()
    summed = product(mixed(1, cells * outs, 2), tell_table(system), cells)
    return [[NOUGHT] * cells] + summed + tell_table(system)[-1:] + unit(cells) + mixed(2, cells, 7)


def outputs_of(system, state, many):
    """What comes out for so many turns if nothing comes in."""
    return run(system, state, noughts(many, system.ins()))[0]


def contents(answer):
    return answer.sums if answer.found() else answer.state


class Tell(unittest.TestCase):
    def test_by_hand(self):
        self.assertEqual(tell_table(HIDDEN), table_of((1, 0), ("1/2", 0)))
        self.assertEqual(tell_table(TOGETHER), table_of((1, 1), (1, 1)))
        self.assertEqual(tell_table(CHAIN), unit(3))
        self.assertEqual([tell_count(system) for system in (HIDDEN, TOGETHER, CHAIN, EMPTY)], [1, 1, 3, 0])
        two = System(table_of((1, 2), (3, 4)), table_of((0,), (0,)), table_of((1, 0), (0, "1/2")), table_of((0,), (0,)))
        self.assertEqual(tell_table(two), table_of((1, 0), (0, "1/2"), (1, 2), ("3/2", 2)))
        self.assertEqual(tell_count(two), 2)

    def test_without_cells(self):
        for ins in (1, 2):
            for outs in (1, 2):
                self.assertEqual(tell_table(system_of(0, ins, outs, 1)), [])
                self.assertEqual(tell_count(system_of(0, ins, outs, 1)), 0)

    def test_look_and_look_times_move_below_one_another(self):
        for system in systems():
            move, push, look, through = system.tables()
            cells, outs = system.cells(), system.outs()
            wanted = [row for k in range(cells) for row in product(look, power(move, k), cells)]
            self.assertTrue(is_table(tell_table(system), cells * outs, cells))
            self.assertEqual(tell_table(system), wanted)
            self.assertEqual(tell_count(system), plain_rank(wanted))

    def test_what_turns_the_tables_over_changes_reach_and_tell(self):
        for system in systems():
            cells = system.cells()
            other = turned_over(system)
            self.assertEqual(turned(tell_table(system), cells), reach_table(other))
            self.assertEqual(tell_count(system), reach_count(other))

    def test_counts(self):
        self.assertEqual([tell_count(blind(cells, 2)) for cells in (0, 1, 4, 8)], [0, 0, 0, 0])
        self.assertEqual([tell_count(partly(cells, seen, 1)) for cells, seen in ((2, 1), (4, 2), (8, 3), (8, 7))],
                         [1, 2, 3, 7])

    def test_new_lists(self):
        for system in (HIDDEN, TOGETHER, CHAIN, EMPTY, system_of(3, 2, 2, 1)):
            holds_point_six(self, lambda: tell_table(system), [])


class ToldBy(unittest.TestCase):
    def test_by_hand(self):
        self.assertEqual(told_by(CHAIN, row_of(1, 2, 3)).sums, table_of((1,), (2,), (3,)))
        self.assertEqual(told_by(EMPTY, []).sums, [])
        told = told_by(HIDDEN, row_of(1, 2))
        self.assertIsInstance(told, Unseen)
        self.assertEqual(plain_rank([told.state, row_of(0, 1)]), 1)
        told = told_by(TOGETHER, row_of(1, 2))
        self.assertEqual(plain_rank([told.state, row_of(1, -1)]), 1)
        self.assertIsInstance(told_by(TOGETHER, row_of("2/3", "2/3")), Sums)

    def test_just_one_of_the_two(self):
        seen = {True: 0, False: 0}
        for system in systems():
            cells, outs = system.cells(), system.outs()
            table = tell_table(system)
            for weights in weighings(system):
                there = plain_rank(table + [weights]) == plain_rank(table)
                told = told_by(system, weights)
                seen[there] += 1
                self.assertIsInstance(told, Sums if there else Unseen)
                self.assertIs(told.found(), there)
                if there:
                    self.assertTrue(is_table(told.sums, cells, outs))
                    self.tells(system, weights, told.sums)
                else:
                    self.assertTrue(is_row(told.state, cells))
                    self.assertNotEqual(weighed(weights, told.state), NOUGHT)
                    self.assertEqual(outputs_of(system, told.state, 2 * cells + 2), noughts(2 * cells + 2, outs))
                self.assertIs(told.shows(system, weights), True)
        self.assertTrue(min(seen.values()) > 30, seen)

    def tells(self, system, weights, sums):
        cells = system.cells()
        joint = [number for row in sums for number in row]
        for state in unit(cells) + mixed(1, cells, 4):
            brought = [number for row in outputs_of(system, state, cells) for number in row]
            self.assertEqual(weighed(joint, brought), weighed(weights, state))

    def test_two_states_that_sound_alike(self):
        for system in (HIDDEN, TOGETHER, partly(4, 2, 2), blind(4, 1)):
            cells, ins = system.cells(), system.ins()
            for weights in weighings(system):
                told = told_by(system, weights)
                if not told.found():
                    state = mixed(1, cells, 3)[0]
                    other = [(left[0] * right[1] + right[0] * left[1], left[1] * right[1])
                             for left, right in zip(state, told.state)]
                    other = row_of(*[f"{top}/{bottom}" for top, bottom in other])
                    inputs = mixed(10, ins, 6)
                    self.assertEqual(run(system, state, inputs)[0], run(system, other, inputs)[0])
                    self.assertNotEqual(weighed(weights, state), weighed(weights, other))

    def test_all_weights_just_where_the_tell_count_is_full(self):
        for system in systems():
            cells = system.cells()
            full = all(told_by(system, weights).found() for weights in unit(cells))
            self.assertEqual(full, tell_count(system) == cells)

    def test_no_fit(self):
        for system in (HIDDEN, EMPTY, CHAIN, system_of(8, 2, 2, 1)):
            for thing in no_rows(system.cells()):
                with self.assertRaises(NoFit):
                    told_by(system, thing)

    def test_point_six(self):
        for system in (HIDDEN, TOGETHER, CHAIN, EMPTY, system_of(3, 1, 2, 1)):
            before = system.told()
            for weights in weighings(system):
                holds_point_six(self, lambda row: contents(told_by(system, row)), [list(weights)])
                holds_point_six(self, lambda row: contents(told_by(System(*system.tables()), row)), [list(weights)])
            self.assertEqual(system.told(), before)

    def test_long_numbers(self):
        weights = [(LONG, 3), (1, LONG), (5, 7)]
        self.assertEqual(told_by(CHAIN, weights).sums, [[number] for number in weights])
        self.tells(system_of(3, 1, 2, 2), weights, told_by(system_of(3, 1, 2, 2), weights).sums)


class Findings(unittest.TestCase):
    def test_kinds(self):
        kinds = (Sums, Unseen, Inputs, Unmoved)
        for kind in kinds:
            self.assertTrue(issubclass(kind, Finding))
            self.assertEqual([issubclass(kind, other) for other in kinds], [kind is other for other in kinds])
        self.assertIs(Sums([]).found(), True)
        self.assertIs(Unseen([]).found(), False)

    def test_sums_right_and_wrong(self):
        self.assertIs(Sums(table_of((1,), (2,), (3,))).shows(CHAIN, row_of(1, 2, 3)), True)
        for sums in (table_of((3,), (2,), (1,)), table_of((1,), (2,)), table_of((1,), (2,), (3,), (0,)),
                     table_of((1,), (2,), (4,)), table_of((1, 0), (2, 0), (3, 0)), [], table_of((1, 2, 3))):
            self.assertIs(Sums(sums).shows(CHAIN, row_of(1, 2, 3)), False)
        for sums in (table_of((1,), (0,)), table_of((0,), (2,)), table_of((3,), (-4,))):
            self.assertIs(Sums(sums).shows(HIDDEN, row_of(1, 0)), True)
            self.assertIs(Sums(sums).shows(HIDDEN, row_of(1, 1)), False)
            self.assertIs(Sums(sums).shows(HIDDEN, row_of(2, 0)), False)
        self.assertIs(Sums([]).shows(EMPTY, []), True)
        self.assertIs(Sums([[]]).shows(EMPTY, []), False)
        self.assertIs(Sums(table_of((1,))).shows(EMPTY, []), False)

    def test_sums_of_two_lines(self):
        two = System(table_of((0, 0), (1, 0)), table_of((1,), (1,)), table_of((1, 1), (0, 1)), table_of((5,), (6,)))
        # At first both lines bring out (s + t, t), then (s, s), where the cells hold s and t.
        for sums in (table_of((0, 1), (1, 0)), table_of((0, 1), (0, 1)), table_of((1, 0), (0, 0))):
            self.assertIs(Sums(sums).shows(two, row_of(1, 1)), True)
        for sums in (table_of((1, 0), (0, 1)), table_of((1, 0), (1, 0)), table_of((0, 0), (1, 0))):
            self.assertIs(Sums(sums).shows(two, row_of(1, 1)), False)

    def test_states_right_and_wrong(self):
        for state in (row_of(0, 1), row_of(0, "-7/2")):
            self.assertIs(Unseen(state).shows(HIDDEN, row_of(5, 1)), True)
            self.assertIs(Unseen(state).shows(HIDDEN, row_of(5, 0)), False)
        for state in (row_of(0, 0), row_of(1, 0), row_of(1, 1), row_of(0, 1, 0), row_of(1), []):
            self.assertIs(Unseen(state).shows(HIDDEN, row_of(5, 1)), False)
        self.assertIs(Unseen(row_of(1, -1)).shows(TOGETHER, row_of(5, 1)), True)
        self.assertIs(Unseen([]).shows(EMPTY, []), False)

    def test_states_that_are_seen_at_a_later_turn(self):
        for state in unit(3) + mixed(2, 3, 4):
            self.assertIs(Unseen(state).shows(CHAIN, row_of(1, 1, 1)), False)
        # The second line out sees what the first does not.
        system = System(noughts(2, 2), table_of((1,), (0,)), unit(2), table_of((0,), (0,)))
        for state in unit(2):
            self.assertIs(Unseen(state).shows(system, row_of(1, 1)), False)

    def test_of_systems_of_eight_cells(self):
        seen = {True: 0, False: 0}
        for system in (partly(8, 5, 1), partly(8, 5, 2), system_of(8, 1, 1, 3)):
            table = tell_table(system)
            for weights in weighings(system):
                told = told_by(system, weights)
                for place in range(8):
                    wrong = deepcopy(contents(told))
                    row, at = (wrong[place], 0) if told.found() else (wrong, place)
                    row[at] = (row[at][0] + row[at][1], row[at][1])
                    if told.found():
                        # More by one look at a line out: right only where that look is nothing.
                        right = table[place * system.outs()] == [NOUGHT] * 8
                        self.assertIs(Sums(wrong).shows(system, weights), right)
                    else:
                        right = outputs_of(system, wrong, 16) == noughts(16, system.outs()) \
                            and weighed(weights, wrong) != NOUGHT
                        self.assertIs(Unseen(wrong).shows(system, weights), right)
                    seen[right] += 1
        self.assertTrue(seen[False] > 100, seen)

    def test_made_of_anything(self):
        for system in (HIDDEN, CHAIN, EMPTY, system_of(2, 1, 2, 1)):
            cells, outs = system.cells(), system.outs()
            for thing in no_tables(cells, outs):
                self.assertIs(Sums(thing).found(), True)
                for weights in weighings(system):
                    self.assertIs(Sums(thing).shows(system, weights), False)
            for thing in no_rows(cells):
                self.assertIs(Unseen(thing).found(), False)
                for weights in weighings(system):
                    self.assertIs(Unseen(thing).shows(system, weights), False)

    def test_fields(self):
        for thing in (table_of((1,)), row_of(1, 2), None, True, 3, (1, 2), "text", [], [[]], {"a": 1}, [[(2, 4)]]):
            self.assertEqual(Sums(thing).sums, thing)
            self.assertEqual(Unseen(thing).state, thing)

    def test_no_fit(self):
        for system in (HIDDEN, EMPTY, CHAIN):
            cells = system.cells()
            for answer in (Sums(noughts(cells, 1)), Sums(None), Unseen([NOUGHT] * cells), Unseen("text")):
                for thing in no_rows(cells):
                    with self.assertRaises(NoFit):
                        answer.shows(system, thing)

    def test_point_six(self):
        for answer, weights in ((Sums(table_of((1,), (2,), (3,))), row_of(1, 2, 3)), (Unseen(row_of(0, 1, 0)), row_of(1, 2, 3))):
            kept = deepcopy(contents(answer))
            before = CHAIN.told()
            told = answer.shows(CHAIN, weights)
            self.assertEqual(contents(answer), kept)
            self.assertEqual(weights, row_of(1, 2, 3))
            self.assertEqual(CHAIN.told(), before)
            self.assertEqual(answer.shows(CHAIN, weights), told)
            spoil(weights)
            self.assertEqual(answer.shows(CHAIN, row_of(1, 2, 3)), told)


if __name__ == "__main__":
    unittest.main()
