"""Points 75 and 76, and what points 6 and 7 say of them: systems that are alike, or not, and what shows it."""

import unittest
from copy import deepcopy

from boxes import DELAY, ECHO, EMPTY, GROWING, all_boxes, of_no_use
from echohouse.alike import Alike, Likeness, Unlike, alike
from echohouse.errors import NoFit
from echohouse.joins import beside
from echohouse.small import carried, small
from echohouse.steering import reach_table
from echohouse.systems import System, answers
from echohouse.tables import noughts, unit
from helpers import (
    LONG, NO_LISTS, NOUGHT, lists_in, mixed, more_cells, no_tables, other_cells, sizes, system_of, table_of,
)

# What a turn, a line out or a line in never is.
NO_COUNTS = (None, True, False, -1, -7, 10 ** 29, "0", "", "a", [], [0], (), (0,), (0, 1), {}, 0.0, 1.5, object())


def chain(many, last):
    """What comes in comes out so many turns later, so many times."""
    move = [[(1, 1) if column == row - 1 else NOUGHT for column in range(many)] for row in range(many)]
    push = [[(1, 1)] if row == 0 else [NOUGHT] for row in range(many)]
    return System(move, push, [[NOUGHT] * (many - 1) + [last]] if many else [[]], [[NOUGHT]])


def changed(table, row, place):
    """The table with one more in this place."""
    other = deepcopy(table)
    top, bottom = other[row][place]
    other[row][place] = (top + bottom, bottom)
    return other


def first_unlike(one, other):
    """Turn, line out and line in, looked for one by one; None where there is no such place for long."""
    many = one.cells() + other.cells() + 4
    for turn, (left, right) in enumerate(zip(answers(one, many), answers(other, many))):
        for out in range(one.outs()):
            for line in range(one.ins()):
                if left[out][line] != right[out][line]:
                    return (turn, out, line)
    return None


def place_of(answer):
    return (answer.when, answer.out, answer.line)


class Told(unittest.TestCase):
    def holds_alike(self, one, other):
        told = alike(one, other)
        self.assertIsInstance(told, Alike)
        self.assertIs(told.found(), True)
        self.assertIsInstance(told.form, System)
        self.assertEqual(told.form.told(), small(one).told())
        self.assertEqual(told.form.told(), small(other).told())
        self.assertEqual(told.here, carried(one))
        self.assertEqual(told.there, carried(other))
        self.assertIs(told.shows(one, other), True)

    def test_by_other_cells(self):
        for cells, ins, outs in sizes():
            one = system_of(cells, ins, outs, 5)
            other = other_cells(one)
            if cells > 1:
                self.assertNotEqual(one.told(), other.told())
            self.holds_alike(one, other)
            self.holds_alike(other, one)
            self.holds_alike(one, one)

    def test_with_more_and_fewer_cells(self):
        for cells, ins, outs in sizes(5):
            one = system_of(cells, ins, outs, 2)
            for unseen, unmoved in ((1, 0), (0, 1), (1, 2)):
                other = other_cells(more_cells(one, unseen, unmoved, 7))
                self.holds_alike(one, other)
                self.holds_alike(other, one)
                self.holds_alike(more_cells(one, unmoved, unseen, 3), other)

    def test_just_where_the_small_forms_are_the_same(self):
        boxes = all_boxes()
        seen = {True: 0, False: 0}
        for one in boxes[::3]:
            for other in boxes:
                if (one.ins(), one.outs()) == (other.ins(), other.outs()):
                    same = small(one).told() == small(other).told()
                    seen[same] += 1
                    told = alike(one, other)
                    self.assertIs(told.found(), same)
                    self.assertIs(told.shows(one, other), True)
                    if not same:
                        self.assertIsInstance(told, Unlike)
                        self.assertEqual(place_of(told), first_unlike(one, other))
                        self.assertTrue(told.when <= one.cells() + other.cells())
        self.assertTrue(min(seen.values()) > 20, seen)

    def test_unlike_by_hand(self):
        self.assertEqual(place_of(alike(ECHO, EMPTY)), (1, 0, 0))
        self.assertEqual(place_of(alike(ECHO, DELAY)), (0, 0, 0))
        self.assertEqual(place_of(alike(DELAY, GROWING)), (1, 0, 0))
        self.assertEqual(place_of(alike(chain(3, (1, 1)), chain(3, (2, 1)))), (3, 0, 0))
        one = System([], [], [[], []], table_of((1, 2), (3, 4)))
        for through, place in (
            (table_of((0, 2), (3, 4)), (0, 0, 0)), (table_of((1, 0), (3, 4)), (0, 0, 1)),
            (table_of((1, 2), (0, 4)), (0, 1, 0)), (table_of((1, 2), (3, 0)), (0, 1, 1)),
            (table_of((1, 0), (0, 0)), (0, 0, 1)), (table_of((0, 0), (0, 0)), (0, 0, 0)),
        ):
            self.assertEqual(place_of(alike(one, System([], [], [[], []], through))), place)

    def test_the_least_line_out_goes_ahead_of_the_least_line_in(self):
        one = System(table_of((0,)), table_of((1, 1)), table_of((1,), (1,)), noughts(2, 2))
        # At turn 1 the answers are 1, 1; 1, 1, and those of the others 1, 0; 0, 1 and 1, 1; 0, 0.
        self.assertEqual(place_of(alike(one, beside(chain(1, (1, 1)), chain(1, (1, 1))))), (1, 0, 1))
        other = System(table_of((0,)), table_of((1, 1)), table_of((1,), (0,)), noughts(2, 2))
        self.assertEqual(place_of(alike(one, other)), (1, 1, 0))

    def test_at_the_last_turn_that_can_be(self):
        for cells in range(1, 9):
            none = System([], [], [[]], noughts(1, 1))
            self.assertEqual(place_of(alike(chain(cells, (1, 1)), none)), (cells, 0, 0))
            self.assertEqual(place_of(alike(none, chain(cells, (1, 1)))), (cells, 0, 0))
        # One cell that keeps what it holds against another one that halves it: turn 2 is the first one.
        keeps = System(table_of((1,)), table_of((1,)), table_of((1,)), noughts(1, 1))
        halves = System(table_of(("1/2",)), table_of((1,)), table_of((1,)), noughts(1, 1))
        self.assertEqual(place_of(alike(keeps, halves)), (2, 0, 0))

    def test_unlike_at_the_turn_of_all_cells_together(self):
        # What comes back through all cells of a ring, once or twice of it, is first heard at its second round.
        for cells in (1, 2, 3, 4):
            one = ring_of(cells, (1, 1))
            other = ring_of(cells, (2, 1))
            told = alike(one, other)
            self.assertEqual(place_of(told), first_unlike(one, other))
            self.assertEqual(told.when, 2 * cells)

    def test_no_fit(self):
        lines = ((1, 1), (1, 2), (2, 1), (2, 2))
        for here in lines:
            for there in lines:
                if here != there:
                    one, other = system_of(2, *here, 1), system_of(2, *there, 1)
                    with self.assertRaises(NoFit):
                        alike(one, other)
                    for answer in (Alike(one, unit(2), unit(2)), Unlike(0, 0, 0), Alike(None, None, None), Unlike("a", 1, 2)):
                        with self.assertRaises(NoFit):
                            answer.shows(one, other)

    def test_point_six(self):
        for one in (EMPTY, ECHO, system_of(3, 2, 2, 1), of_no_use()[-1]):
            for other in (one, other_cells(one), more_cells(small(one), 1, 1, 2)):
                before = (one.told(), other.told())
                told, again = alike(one, other), alike(System(*one.tables()), other)
                self.assertEqual((again.form.told(), again.here, again.there), (told.form.told(), told.here, told.there))
                own = lists_in([told.here, told.there, again.here, again.there])
                self.assertEqual(len(own), len({id(one) for one in own}))
                self.assertEqual((one.told(), other.told()), before)

    def test_long_numbers(self):
        one = System([[(LONG, 2)]], [[(1, LONG)]], [[(3, 1)]], [[NOUGHT]])
        other = System([[(LONG, 2)]], [[(3, LONG)]], [[(1, 1)]], [[NOUGHT]])
        self.holds_alike(one, other)
        other = System([[(LONG, 2)]], [[(3, LONG)]], [[(1, 1)]], [[(1, LONG)]])
        self.assertEqual(place_of(alike(one, other)), (0, 0, 0))


def ring_of(cells, last):
    """What goes through these cells in a row comes back to the first one, so many times, from the last one."""
    move = [[(1, 1) if column == row - 1 else NOUGHT for column in range(cells)] for row in range(cells)]
    move[0][cells - 1] = last
    push = [[(1, 1)] if row == 0 else [NOUGHT] for row in range(cells)]
    return System(move, push, [[NOUGHT] * (cells - 1) + [(1, 1)]], [[NOUGHT]])


class Shows(unittest.TestCase):
    def test_kinds(self):
        self.assertTrue(issubclass(Alike, Likeness) and issubclass(Unlike, Likeness))
        self.assertFalse(issubclass(Alike, Unlike) or issubclass(Unlike, Alike))
        self.assertIs(Alike(None, None, None).found(), True)
        self.assertIs(Unlike(None, None, None).found(), False)

    def test_fields(self):
        things = (None, True, 3, "text", (1, 2), [], [[]], {"a": 1}, [[(2, 4)]], unit(2))
        for thing in things:
            for other in things:
                answer = Alike(thing, other, thing)
                self.assertEqual((answer.form, answer.here, answer.there), (thing, other, thing))
                answer = Unlike(other, thing, other)
                self.assertEqual((answer.when, answer.out, answer.line), (other, thing, other))
        self.assertIs(Alike(ECHO, [], []).form, ECHO)

    def test_the_systems_themselves_as_form(self):
        for cells, ins, outs in sizes():
            system = system_of(cells, ins, outs, 1)
            self.assertIs(Alike(system, unit(cells), unit(cells)).shows(system, system), True)

    def test_a_form_with_more_cells(self):
        # A form may have cells of no use: noughts carry to those that nobody pushes.
        for cells, ins, outs in sizes(4):
            system = system_of(cells, ins, outs, 1)
            form = more_cells(system, 0, 2, 3)
            table = unit(cells) + noughts(2, cells)
            self.assertIs(Alike(form, table, table).shows(system, system), True)
            self.assertIs(Alike(form, table, unit(cells + 2)).shows(system, form), True)
            self.assertIs(Alike(form, unit(cells + 2), table).shows(form, system), True)
            self.assertIs(Alike(form, table, unit(cells + 2)).shows(form, system), False)

    def test_wrong_by_one_number(self):
        for one in (ECHO, DELAY, system_of(2, 2, 2, 1), system_of(3, 1, 2, 2), system_of(8, 1, 1, 3), system_of(8, 2, 2, 4)):
            other = other_cells(one)
            told = alike(one, other)
            for row in range(len(told.here)):
                for place in range(one.cells()):
                    wrong = changed(told.here, row, place)
                    self.assertIs(Alike(told.form, wrong, told.there).shows(one, other), False)
                    wrong = changed(told.there, row, place)
                    self.assertIs(Alike(told.form, told.here, wrong).shows(one, other), False)
            for at, table in enumerate(told.form.tables()):
                for row in range(len(table)):
                    for place in range(len(table[row])):
                        tables = list(told.form.tables())
                        tables[at] = changed(table, row, place)
                        self.assertIs(Alike(System(*tables), told.here, told.there).shows(one, other), False)

    def test_wrong_only_where_nothing_is_steered_to(self):
        # The second cell is never pushed: whatever the table makes of it, it carries.
        one = System(table_of((2, 1), (0, 3)), table_of((1,), (0,)), table_of((1, 5)), table_of((0,)))
        form = System(table_of((2,)), table_of((1,)), table_of((1,)), table_of((0,)))
        for far in (0, 5, "-7/3"):
            self.assertIs(Alike(form, table_of((1, far)), table_of((1,))).shows(one, form), True)
            self.assertIs(Alike(form, table_of((2, far)), table_of((1,))).shows(one, form), False)

    def test_each_thing_that_is_asked(self):
        one = System(table_of((2,)), table_of((1,)), table_of((3,)), table_of((4,)))
        right = table_of((1,))
        self.assertIs(Alike(one, right, right).shows(one, one), True)
        for form in (
            System(table_of((5,)), table_of((1,)), table_of((3,)), table_of((4,))),
            System(table_of((2,)), table_of((5,)), table_of((3,)), table_of((4,))),
            System(table_of((2,)), table_of((1,)), table_of((5,)), table_of((4,))),
            System(table_of((2,)), table_of((1,)), table_of((3,)), table_of((5,))),
        ):
            self.assertIs(Alike(form, right, right).shows(one, one), False)
        # The through is asked of both systems.
        other = System(table_of((2,)), table_of((1,)), table_of((3,)), table_of((5,)))
        self.assertIs(Alike(one, right, right).shows(one, other), False)
        self.assertIs(Alike(other, right, right).shows(one, other), False)
        self.assertIs(Alike(other, right, right).shows(other, one), False)

    def test_forms_with_other_lines(self):
        one = system_of(2, 1, 1, 1)
        move, push, look, through = one.tables()
        wider = System(move, [row + row for row in push], look, [row + row for row in through])
        lower = System(move, push, look + look, through + through)
        for form in (wider, lower, system_of(2, 2, 2, 1), EMPTY):
            self.assertIs(Alike(form, unit(2), unit(2)).shows(one, one), False)

    def test_without_cells(self):
        for ins, outs in ((1, 1), (1, 2), (2, 1), (2, 2)):
            one = system_of(0, ins, outs, 3)
            self.assertIs(Alike(one, [], []).shows(one, one), True)
            for thing in ([[]], [[NOUGHT]], None, ()):
                self.assertIs(Alike(one, thing, []).shows(one, one), False)
                self.assertIs(Alike(one, [], thing).shows(one, one), False)
            form = System(unit(2), noughts(2, ins), mixed(outs, 2, 1), one.tables()[3])
            self.assertIs(Alike(form, [[], []], [[], []]).shows(one, one), True)
            self.assertIs(Alike(form, [[], []], [[]]).shows(one, one), False)
            pushed = System(unit(2), mixed(2, ins, 3), mixed(outs, 2, 1), one.tables()[3])
            self.assertIs(Alike(pushed, [[], []], [[], []]).shows(one, one), False)

    def test_alike_made_of_anything(self):
        for one in (ECHO, system_of(2, 2, 1, 1), EMPTY):
            told = alike(one, one)
            for thing in NO_LISTS + ([], [[]], one.tables(), list(one.tables()), one.told()):
                self.assertIs(Alike(thing, told.here, told.there).shows(one, one), False)
                self.assertIs(Alike(thing, thing, thing).shows(one, one), False)
            for thing in no_tables(len(told.here), one.cells()):
                self.assertIs(Alike(told.form, thing, told.there).shows(one, one), False)
                self.assertIs(Alike(told.form, told.here, thing).shows(one, one), False)

    def test_unlike_right_and_wrong(self):
        for one, other in ((ECHO, DELAY), (system_of(3, 2, 2, 1), system_of(2, 2, 2, 8)), (chain(8, (1, 1)), chain(8, (2, 1))),
                           (system_of(2, 1, 2, 3), other_cells(system_of(2, 1, 2, 3))), (EMPTY, ECHO)):
            cells = one.cells() + other.cells()
            here, there = answers(one, cells + 1), answers(other, cells + 1)
            for when in range(-1, cells + 3):
                for out in range(-1, one.outs() + 1):
                    for line in range(-1, one.ins() + 1):
                        within = 0 <= when <= cells and 0 <= out < one.outs() and 0 <= line < one.ins()
                        right = within and here[when][out][line] != there[when][out][line]
                        self.assertIs(Unlike(when, out, line).shows(one, other), right)

    def test_unlike_only_up_to_all_cells_together(self):
        # Turn 3 is beyond one cell and one cell, though the answers are unlike there too.
        one = System(table_of((1,)), table_of((1,)), table_of((1,)), noughts(1, 1))
        other = System(table_of(("1/2",)), table_of((1,)), table_of((1,)), noughts(1, 1))
        self.assertEqual([Unlike(when, 0, 0).shows(one, other) for when in range(5)], [False, False, True, False, False])

    def test_unlike_made_of_anything(self):
        one, other = system_of(2, 2, 2, 1), system_of(2, 2, 2, 9)
        self.assertIs(Unlike(1, 1, 1).shows(one, other), True)
        for thing in NO_COUNTS:
            self.assertIs(Unlike(thing, 1, 1).shows(one, other), False)
            self.assertIs(Unlike(1, thing, 1).shows(one, other), False)
            self.assertIs(Unlike(1, 1, thing).shows(one, other), False)
            self.assertIs(Unlike(thing, thing, thing).shows(one, other), False)

    def test_just_one_of_the_two(self):
        for one in all_boxes()[::4]:
            other = other_cells(one)
            for when in range(2 * one.cells() + 1):
                for out in range(one.outs()):
                    for line in range(one.ins()):
                        self.assertIs(Unlike(when, out, line).shows(one, other), False)
        self.assertIs(Alike(small(ECHO), carried(ECHO), carried(DELAY)).shows(ECHO, DELAY), False)

    def test_point_six(self):
        one = system_of(3, 2, 2, 1)
        other = other_cells(one)
        told = alike(one, other)
        kept = deepcopy((told.here, told.there)), told.form.told(), one.told(), other.told()
        self.assertIs(told.shows(one, other), True)
        self.assertIs(told.shows(System(*one.tables()), System(*other.tables())), True)
        self.assertEqual(((told.here, told.there), told.form.told(), one.told(), other.told()), kept)
        self.assertEqual(reach_table(one), reach_table(System(*one.tables())))


if __name__ == "__main__":
    unittest.main()
