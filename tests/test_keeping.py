"""Points 90 to 93, and what points 6 and 7 say of them: tables that bring to rest, and states that nothing does."""

import unittest
from copy import deepcopy

from boxes import DELAY, ECHO, EMPTY, GROWING, all_boxes
from echohouse.errors import NoFit, NoTable
from echohouse.keeping import Keeper, Keeping, NoRest, keeper, kept_run
from echohouse.steering import reach_count, steered
from echohouse.systems import System, run
from echohouse.tables import is_row, is_table, noughts, power, product, table_sum, turned, unit, weighed
from helpers import (
    LONG, NOUGHT, holds_point_six, lists_in, mixed, no_rows, no_tables, other_cells, plain_rank, row_of, sizes, spoil,
    system_of, table_of, times_row,
)

# The second cell is never pushed, and keeps what it holds.
HOLDS = System(table_of(("1/2", 0), (0, 1)), table_of((1,), (0,)), table_of((1, 1)), table_of((0,)))
# The second cell is never pushed either, but what it holds is gone behind one turn.
LETS_GO = System(table_of((3, 1), (0, 0)), table_of((1,), (0,)), table_of((1, 1)), table_of((0,)))


def with_unpushed(pushed, far, ins, seed):
    """A system whose last cells, moved by this table alone, are never pushed; told by other cells."""
    cells = pushed + len(far)
    move = mixed(pushed, cells, seed) + [[NOUGHT] * pushed + row for row in far]
    push = mixed(pushed, ins, seed + 1) + noughts(len(far), ins)
    return other_cells(System(move, push, mixed(1, cells, seed + 2), noughts(1, ins)))


def chain(many):
    """A move by which every state is nought behind so many turns, and not behind fewer."""
    return [[(2, 3) if column == row + 1 else NOUGHT for column in range(many)] for row in range(many)]


def kept_systems():
    found = [EMPTY, ECHO, DELAY, GROWING, LETS_GO] + [system_of(*size, 2) for size in sizes()]
    found += [with_unpushed(pushed, chain(far), ins, 6) for pushed, far in ((0, 1), (1, 1), (2, 2), (1, 3), (4, 4), (0, 8))
              for ins in (1, 2)]
    # The same line in twice, and lines in of which one does nothing.
    for cells in (1, 2, 4):
        move, push = mixed(cells, cells, 6), mixed(cells, 1, 7)
        found.append(System(move, [row + row for row in push], mixed(1, cells, 2), noughts(1, 2)))
        found.append(System(move, [[NOUGHT] + row for row in push], mixed(1, cells, 2), noughts(1, 2)))
    # What is nought at once, what moves nothing, and cells that are pushed each by its own line.
    found += [System(noughts(3, 3), noughts(3, 1), mixed(1, 3, 2), noughts(1, 1)),
              System(noughts(3, 3), mixed(3, 2, 1), mixed(1, 3, 2), noughts(1, 2)),
              System(mixed(2, 2, 3), unit(2), mixed(1, 2, 2), noughts(1, 2))]
    return found


def held_systems():
    found = [HOLDS]
    found += [with_unpushed(pushed, far, ins, 4) for ins in (1, 2) for pushed, far in (
        (0, table_of((1,))), (1, table_of(("-1/9",))), (2, table_of((0, 1), (1, 0))), (3, table_of((0, 1, 0), (0, 0, 1), (0, 0, 2))),
        (1, table_of((0, 1, 0), (0, 0, 0), (0, 0, 5))), (4, mixed(4, 4, 3)), (7, table_of((3,))), (0, unit(8)))]
    found += [System(unit(2), noughts(2, 1), mixed(1, 2, 1), noughts(1, 1)),
              System(unit(2), table_of((1,), (1,)), mixed(1, 2, 1), noughts(1, 1)),
              System(unit(3), mixed(3, 2, 1), mixed(1, 3, 1), noughts(1, 2))]
    return found


def kept(system, back):
    """The kept move, table by table."""
    move, push, look, through = system.tables()
    return table_sum(move, product(push, back, system.cells()))


def brings_to_rest(system, back):
    cells = system.cells()
    return power(kept(system, back), cells) == noughts(cells, cells)


def shows_no_rest(system, state, weights):
    move, push, look, through = system.tables()
    cells, ins = system.cells(), system.ins()
    for k in range(cells):
        if times_row(turned(product(power(move, k), push, ins), ins), weights) != [NOUGHT] * ins:
            return False
    return weighed(weights, times_row(power(move, cells), state)) != NOUGHT


def changed(row, place):
    top, bottom = row[place]
    return row[:place] + [(top + bottom, bottom)] + row[place + 1:]


class Kept(unittest.TestCase):
    def test_by_hand(self):
        self.assertEqual(keeper(ECHO).back, table_of(("-1/2",)))
        self.assertEqual(keeper(EMPTY).back, [[]])
        self.assertEqual(keeper(system_of(0, 2, 1, 1)).back, [[], []])
        self.assertEqual(keeper(GROWING).back, table_of((-1, -1)))
        both = System(table_of((2, 0), (0, 3)), table_of((1,), (1,)), table_of((1, 1)), table_of((0,)))
        self.assertEqual(keeper(both).back, table_of((4, -9)))

    def test_each_state_is_nought_behind_as_many_turns_as_cells(self):
        for system in kept_systems():
            cells, ins = system.cells(), system.ins()
            told = keeper(system)
            self.assertIsInstance(told, Keeper)
            self.assertIs(told.keeps(), True)
            self.assertTrue(is_table(told.back, ins, cells))
            self.assertTrue(brings_to_rest(system, told.back))
            for start in unit(cells) + mixed(2, cells, 5):
                state = start
                for turn in range(cells):
                    state = run(system, state, [times_row(told.back, state)])[1]
                self.assertEqual(state, [NOUGHT] * cells)
                states = kept_run(system, told.back, start)
                self.assertEqual(states[-1], [NOUGHT] * cells)
            self.assertIs(told.shows(system), True)

    def test_cells_that_hold_on(self):
        for system in held_systems():
            cells = system.cells()
            told = keeper(system)
            self.assertIsInstance(told, NoRest)
            self.assertIs(told.keeps(), False)
            self.assertTrue(is_row(told.state, cells) and is_row(told.weights, cells))
            self.assertTrue(shows_no_rest(system, told.state, told.weights))
            self.assertIs(told.shows(system), True)
            # No inputs bring this state to nought, behind as many turns or behind more.
            for many in (cells, cells + 1, cells + 5):
                end = run(system, told.state, mixed(many, system.ins(), many))[1]
                self.assertNotEqual(end, [NOUGHT] * cells)
                gone = run(system, told.state, noughts(many, system.ins()))[1]
                opposite = [(-top, bottom) for top, bottom in gone]
                self.assertFalse(steered(system, opposite).found())

    def test_by_hand_of_a_cell_that_holds_on(self):
        told = keeper(HOLDS)
        self.assertEqual(plain_rank([told.weights, row_of(0, 1)]), 1)
        self.assertNotEqual(told.state[1], NOUGHT)

    def test_just_one_of_the_two(self):
        seen = {True: 0, False: 0}
        for system in all_boxes() + kept_systems() + held_systems():
            move, push, look, through = system.tables()
            cells = system.cells()
            # A state comes to rest just where what it holds behind as many turns can be steered to.
            far = turned(power(move, cells), cells)
            there = all(steered(system, row).found() for row in far)
            told = keeper(system)
            seen[there] += 1
            self.assertIs(told.keeps(), there)
            self.assertIs(told.shows(system), True)
            if reach_count(system) == cells:
                self.assertTrue(there)
        self.assertTrue(min(seen.values()) > 10, seen)

    def test_point_six(self):
        for system in (EMPTY, ECHO, HOLDS, LETS_GO, system_of(3, 2, 1, 1), held_systems()[4]):
            before = system.told()
            holds_point_six(self, lambda: fields(keeper(system)), [])
            holds_point_six(self, lambda: fields(keeper(System(*system.tables()))), [])
            self.assertEqual(system.told(), before)

    def test_long_numbers(self):
        move = [[(LONG, 2), (3, LONG)], [(5, 7), (LONG, 11)]]
        for push in (table_of((1,), (2,)), unit(2)):
            system = System(move, push, table_of((1, 1)), noughts(1, len(push[0])))
            told = keeper(system)
            self.assertTrue(brings_to_rest(system, told.back))
            self.assertIs(told.shows(system), True)
        system = System(move, noughts(2, 1), table_of((1, 1)), noughts(1, 1))
        told = keeper(system)
        self.assertTrue(shows_no_rest(system, told.state, told.weights))


def fields(answer):
    return (answer.back,) if answer.keeps() else (answer.state, answer.weights)


class Shows(unittest.TestCase):
    def test_kinds(self):
        self.assertTrue(issubclass(Keeper, Keeping) and issubclass(NoRest, Keeping))
        self.assertFalse(issubclass(Keeper, NoRest) or issubclass(NoRest, Keeper))
        self.assertIs(Keeper(None).keeps(), True)
        self.assertIs(NoRest(None, None).keeps(), False)

    def test_a_plain_keeping(self):
        self.assertIs(Keeping().keeps(), False)
        for system in (EMPTY, ECHO, HOLDS, system_of(8, 2, 2, 1)):
            self.assertIs(Keeping().shows(system), False)

    def test_the_fields_are_the_very_things(self):
        for thing in (None, True, 3, "text", (1, 2), [], [[]], {"a": 1}, [[(2, 4)]], unit(2), object()):
            other = [thing]
            self.assertIs(Keeper(thing).back, thing)
            self.assertIs(NoRest(thing, other).state, thing)
            self.assertIs(NoRest(thing, other).weights, other)
        back = table_of((5,))
        answer = Keeper(back)
        self.assertIs(answer.shows(ECHO), False)
        back[0][0] = (-1, 2)
        self.assertEqual(answer.back, table_of(("-1/2",)))
        self.assertIs(answer.shows(ECHO), True)

    def test_keepers_wrong_by_one_number(self):
        for system in kept_systems():
            back = keeper(system).back
            for row in range(system.ins()):
                for place in range(system.cells()):
                    wrong = back[:row] + [changed(back[row], place)] + back[row + 1:]
                    self.assertIs(Keeper(wrong).shows(system), brings_to_rest(system, wrong))
        # With one line in and all states steered to there is just one table.
        for cells in range(1, 9):
            system = system_of(cells, 1, 1, 2)
            back = keeper(system).back
            for place in range(cells):
                self.assertIs(Keeper([changed(back[0], place)]).shows(system), False)

    def test_keepers_that_need_a_turn_more_than_fewer(self):
        # Behind one turn the state is not nought yet, behind two it is.
        self.assertIs(Keeper(noughts(1, 2)).shows(DELAY), True)
        self.assertIs(Keeper(table_of((0, 1))).shows(DELAY), False)
        self.assertIs(Keeper(table_of((1, 0))).shows(DELAY), False)
        for cells in range(1, 9):
            system = System(chain(cells), noughts(cells, 1), mixed(1, cells, 1), noughts(1, 1))
            self.assertIs(Keeper(mixed(1, cells, 4)).shows(system), True)

    def test_keepers_of_other_sizes(self):
        for back in (table_of(("-1/2", 0)), table_of(("-1/2",), (0,)), [], [[]], row_of("-1/2")):
            self.assertIs(Keeper(back).shows(ECHO), False)
        self.assertIs(Keeper(table_of(("-1/2",))).shows(ECHO), True)
        for ins in (1, 2):
            system = system_of(0, ins, 1, 1)
            self.assertIs(Keeper([[]] * ins).shows(system), True)
            for back in ([], [[]] * (ins + 1), [[NOUGHT]] * ins, [()] * ins, None):
                self.assertIs(Keeper(back).shows(system), False)

    def test_no_rest_by_hand(self):
        for state, weights, right in (
            (row_of(0, 1), row_of(0, 1), True), (row_of(5, "1/3"), row_of(0, -7), True), (row_of(1, 0), row_of(0, 1), False),
            (row_of(0, 1), row_of(1, 1), False), (row_of(0, 1), row_of(0, 0), False), (row_of(0, 0), row_of(0, 1), False),
            (row_of(0, 1, 0), row_of(0, 1), False), (row_of(0, 1), row_of(0, 1, 0), False), (row_of(1), row_of(1), False),
            ([], row_of(0, 1), False), (row_of(0, 1), [], False),
        ):
            self.assertIs(NoRest(state, weights).shows(HOLDS), right)
            self.assertIs(NoRest(state, weights).shows(LETS_GO), False)
        self.assertIs(NoRest([], []).shows(EMPTY), False)

    def test_no_rest_that_a_later_turn_moves(self):
        # The weights are moved by no input at once, but one turn on, or by the second line in alone.
        late = System(table_of((0, 0), (1, 1)), table_of((1,), (0,)), table_of((1, 1)), noughts(1, 1))
        self.assertIs(NoRest(row_of(0, 1), row_of(0, 1)).shows(late), False)
        second = System(unit(2), table_of((1, 0), (0, 1)), table_of((1, 1)), noughts(1, 2))
        for weights in unit(2):
            self.assertIs(NoRest(row_of(1, 1), weights).shows(second), False)

    def test_no_rest_that_the_last_turn_lets_go(self):
        # Weighed not nought behind fewer turns than there are cells, but nought behind as many.
        for cells in (1, 2, 4, 8):
            system = System(chain(cells), noughts(cells, 1), mixed(1, cells, 1), noughts(1, 1))
            for state in unit(cells):
                for weights in unit(cells):
                    self.assertIs(NoRest(state, weights).shows(system), False)

    def test_no_rest_wrong_by_one_number(self):
        seen = {True: 0, False: 0}
        for system in held_systems():
            told = keeper(system)
            for place in range(system.cells()):
                for state, weights in ((changed(told.state, place), told.weights), (told.state, changed(told.weights, place))):
                    right = shows_no_rest(system, state, weights)
                    seen[right] += 1
                    self.assertIs(NoRest(state, weights).shows(system), right)
        self.assertTrue(min(seen.values()) > 10, seen)

    def test_made_of_anything(self):
        for system in (EMPTY, ECHO, HOLDS, system_of(2, 2, 1, 1), system_of(8, 1, 1, 2)):
            cells = system.cells()
            for thing in no_tables(system.ins(), cells):
                self.assertIs(Keeper(thing).shows(system), False)
            for thing in no_rows(cells):
                self.assertIs(NoRest(thing, thing).shows(system), False)
                self.assertIs(NoRest(thing, [(1, 1)] * cells).shows(system), False)
                self.assertIs(NoRest([(1, 1)] * cells, thing).shows(system), False)
        for thing in no_rows(2):
            self.assertIs(NoRest(thing, row_of(0, 1)).shows(HOLDS), False)
            self.assertIs(NoRest(row_of(0, 1), thing).shows(HOLDS), False)

    def test_point_six(self):
        for system in (ECHO, HOLDS, LETS_GO, system_of(3, 2, 1, 1)):
            answer = keeper(system)
            kept_fields = deepcopy(fields(answer)), system.told()
            self.assertIs(answer.shows(system), True)
            self.assertIs(answer.shows(System(*system.tables())), True)
            self.assertEqual((fields(answer), system.told()), kept_fields)


class KeptRun(unittest.TestCase):
    def test_by_hand(self):
        self.assertEqual(kept_run(ECHO, table_of(("-1/2",)), row_of(6)), table_of((6,), (0,)))
        self.assertEqual(kept_run(ECHO, table_of(("1/2",)), row_of(6)), table_of((6,), (6,)))
        self.assertEqual(kept_run(DELAY, table_of((0, 3)), row_of(1, 2)), table_of((1, 2), (6, 1), (3, 6)))
        self.assertEqual(kept_run(EMPTY, [[]], []), [[]])
        self.assertEqual(kept_run(system_of(0, 2, 2, 1), [[], []], []), [[]])

    def test_turn_by_turn(self):
        for cells, ins, outs in sizes():
            system = system_of(cells, ins, outs, 3)
            back, state = mixed(ins, cells, 4), mixed(1, cells, 5)[0]
            told = kept_run(system, back, state)
            self.assertTrue(is_table(told, cells + 1, cells))
            for row in told:
                self.assertEqual(row, state)
                state = run(system, state, [times_row(back, state)])[1]

    def test_refusals(self):
        for system in (EMPTY, ECHO, HOLDS, system_of(3, 2, 1, 1), system_of(8, 1, 2, 1)):
            cells, ins = system.cells(), system.ins()
            back, start = mixed(ins, cells, 1), mixed(1, cells, 2)[0]
            for thing in no_tables(ins, cells):
                with self.assertRaises(NoTable):
                    kept_run(system, thing, start)
                with self.assertRaises(NoTable):
                    kept_run(system, thing, None)
            for thing in no_rows(cells):
                with self.assertRaises(NoFit):
                    kept_run(system, back, thing)
                with self.assertRaises(NoTable):
                    kept_run(system, None, thing)

    def test_point_six(self):
        for system in (EMPTY, ECHO, HOLDS, system_of(3, 2, 1, 1)):
            cells, ins = system.cells(), system.ins()
            before = system.told()
            holds_point_six(self, lambda back, start: kept_run(system, back, start),
                            [mixed(ins, cells, 1), mixed(1, cells, 2)[0]])
            self.assertEqual(system.told(), before)
        start = row_of(6)
        told = kept_run(ECHO, table_of((0,)), start)
        self.assertEqual(len(lists_in(told)), 3)
        spoil(start)
        self.assertEqual(told, table_of((6,), (3,)))


if __name__ == "__main__":
    unittest.main()
