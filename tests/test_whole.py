"""Point 7, and point 1: what is promised of the whole program, from wirings to the last answers."""

import unittest
from fractions import Fraction

from echohouse.alike import Alike, Unlike, alike
from echohouse.carrying import from_wiring
from echohouse.desk import Desk
from echohouse.echo import Dies, Lives, Steady, echo, weights_on
from echohouse.errors import Flat, TooMany
from echohouse.joins import beside, fed_back, in_row, remover
from echohouse.keeping import Keeper, NoRest, keeper, kept_run
from echohouse.lines import show_row, show_table
from echohouse.rules import rule
from echohouse.small import carried, corner, first_cells, small
from echohouse.solving import determinant
from echohouse.steering import Inputs, Unmoved, steered
from echohouse.systems import System, answers, run
from echohouse.tables import noughts, power, product, row_sum, table_scaled, turned, unit, weighed
from echohouse.telling import Sums, Unseen, told_by
from echohouse.wiring import Wiring
from helpers import NOUGHT, mixed, more_cells, other_cells, plain_rank, times_row
from test_carrying import made_wirings

# Those that are made pass little straight through; these do, so that they can be undone.
STRAIGHT = (
    "in a\ncell c a\ncell d c\ngain g 3/4 d\nsum s a -c g\nout s", "in a\ngain g -2/7 a\nout g",
    "in a\ncell c d\ncell d e\ncell e s\nsum s a -c d\nout s", "in a\nin b\nsum s a b\nsum t a -b\nout s\nout t",
    "in a\nin b\ncell c s\ngain g 5/3 b\nsum s a c\nsum t g -c s\nout s\nout t",
    "in a\nin b\ncell c a\ncell d b\ncell e c\ncell f s\nsum s e d -f\nsum t s a\nsum u f b\nout t\nout u",
)
WIRINGS = [Wiring(text) for text in made_wirings()[::2] + list(STRAIGHT)]
SYSTEMS = [from_wiring(wiring) for wiring in WIRINGS]


def larger():
    """Systems of up to eight cells, of two wirings each."""
    found = []
    for at, one in enumerate(SYSTEMS):
        for other in SYSTEMS[at % 5::7]:
            if one.outs() == other.ins():
                found.append(in_row(one, other))
    return found


LARGER = larger()


class Runs(unittest.TestCase):
    def test_part_by_part_by_tables_and_by_a_desk(self):
        for wiring, system in zip(WIRINGS, SYSTEMS):
            cells, ins = system.cells(), system.ins()
            for start in unit(cells) + mixed(2, cells, 9) + noughts(1, cells):
                inputs = mixed(8, ins, 5)
                wanted = wiring.run(start, inputs)
                self.assertEqual(run(system, start, inputs), wanted)
                desk = Desk()
                desk.say("box " + wiring.text().replace("\n", "; "))
                desk.say("state " + show_row(start))
                self.assertEqual(desk.say("run " + show_table(inputs)), show_table(wanted[0]))

    def test_rules_and_answers_bring_out_the_same(self):
        for system in SYSTEMS:
            cells, ins = system.cells(), system.ins()
            told = answers(system, 12)
            inputs = mixed(12, ins, 6)
            outputs = run(system, [NOUGHT] * cells, inputs)[0]
            for turn in range(12):
                total = [NOUGHT] * system.outs()
                for k in range(turn + 1):
                    total = row_sum(total, times_row(told[k], inputs[turn - k]))
                self.assertEqual(outputs[turn], total)
            for out in range(system.outs()):
                for line in range(ins):
                    a, b = rule(system, out, line)
                    single = [answer[out][line] for answer in told]
                    for turn in range(12):
                        wanted = Fraction(*b[turn]) if turn < len(b) else Fraction(0)
                        for k in range(1, min(turn, len(a)) + 1):
                            wanted += Fraction(*a[k - 1]) * Fraction(*single[turn - k])
                        self.assertEqual(Fraction(*single[turn]), wanted)


class Joined(unittest.TestCase):
    def test_put_together_each_does_what_it_does(self):
        for at, (one, here) in enumerate(zip(WIRINGS, SYSTEMS)):
            for other, there in list(zip(WIRINGS, SYSTEMS))[at % 7::7]:
                first, second = mixed(1, here.cells(), 3)[0], mixed(1, there.cells(), 4)[0]
                inputs = mixed(6, one.ins(), 5)
                if one.outs() == other.ins():
                    between, end = one.run(first, inputs)
                    outputs, other_end = other.run(second, between)
                    self.assertEqual(run(in_row(here, there), first + second, inputs), (outputs, end + other_end))
                if one.ins() == one.outs() == other.ins() == other.outs() == 1:
                    further = mixed(6, 1, 8)
                    outputs, end = one.run(first, inputs)
                    more, other_end = other.run(second, further)
                    both = [left + right for left, right in zip(inputs, further)]
                    self.assertEqual(run(beside(here, there), first + second, both),
                                     ([left + right for left, right in zip(outputs, more)], end + other_end))

    def test_fed_back_and_back_again(self):
        many = 0
        for wiring, system in zip(WIRINGS, SYSTEMS):
            table = mixed(system.ins(), system.outs(), 11)
            try:
                fed = fed_back(system, table)
            except Flat:
                continue
            many += 1
            state = mixed(1, system.cells(), 3)[0]
            for given in mixed(4, system.ins(), 4):
                (output,), end = run(fed, state, [given])
                goes_in = row_sum(given, times_row(table, output))
                self.assertEqual(wiring.run(state, [goes_in]), ([output], end))
                state = end
            self.assertEqual(fed_back(fed, table_scaled((-1, 1), table)).told(), system.told())
        self.assertTrue(many > 20)

    def test_undone(self):
        many = 0
        for wiring, system in zip(WIRINGS, SYSTEMS):
            if system.ins() != system.outs():
                continue
            try:
                undone = remover(system)
            except Flat:
                continue
            many += 1
            start = mixed(1, system.cells(), 3)[0]
            inputs = mixed(6, system.ins(), 4)
            outputs, end = wiring.run(start, inputs)
            self.assertEqual(run(undone, start, outputs), (inputs, end))
            self.assertEqual(remover(undone).told(), system.told())
        self.assertTrue(many > 9, many)

    def test_more_than_eight_cells(self):
        four = from_wiring(Wiring(STRAIGHT[-1]))
        with self.assertRaises(TooMany):
            in_row(four, in_row(four, four))


class OneOfTwo(unittest.TestCase):
    def test_states_and_weighings(self):
        seen = {}
        for system in SYSTEMS + LARGER[::4]:
            cells, ins, outs = system.cells(), system.ins(), system.outs()
            move, push, look, through = system.tables()
            pushes = [row for k in range(cells) for row in turned(product(power(move, k), push, ins), ins)]
            looks = [row for k in range(cells) for row in product(look, power(move, k), cells)]
            for row in unit(cells) + mixed(1, cells, 5):
                told = steered(system, row)
                there = plain_rank(pushes + [row]) == plain_rank(pushes)
                self.assertIsInstance(told, Inputs if there else Unmoved)
                self.assertIs(told.shows(system, row), True)
                told = told_by(system, row)
                seen_there = plain_rank(looks + [row]) == plain_rank(looks)
                self.assertIsInstance(told, Sums if seen_there else Unseen)
                self.assertIs(told.shows(system, row), True)
                seen[(there, seen_there)] = True
        self.assertEqual(len(seen), 4)

    def test_the_echo(self):
        seen = {}
        for system in SYSTEMS:
            told = echo(system)
            seen[told.dies()] = True
            self.assertIs(told.shows(system), True)
            self.assertIsInstance(told, (Dies, Lives, Steady))
            state = mixed(1, system.cells(), 7)[0]
            weights = weights_on(system, told.weighing, state, 3)
            for number, after in zip(weights, weights[1:]):
                wanted = 0 if isinstance(told, Steady) else Fraction(*weighed(state, state))
                self.assertEqual(Fraction(*number) - Fraction(*after), wanted)
                state = run(system, state, noughts(1, system.ins()))[1]
            if told.dies():
                self.assertFalse(any(Lives(told.weighing, row).shows(system) for row in unit(system.cells())))
            else:
                self.assertIs(Dies(told.weighing).shows(system), False)
        self.assertEqual(sorted(seen), [False, True])

    def test_keepers(self):
        seen = {}
        for system in SYSTEMS + LARGER[::4]:
            cells, ins = system.cells(), system.ins()
            told = keeper(system)
            seen[told.keeps()] = True
            self.assertIsInstance(told, Keeper if told.keeps() else NoRest)
            self.assertIs(told.shows(system), True)
            for start in unit(cells):
                if told.keeps():
                    self.assertEqual(kept_run(system, told.back, start)[cells], [NOUGHT] * cells)
                    for weights in unit(cells):
                        self.assertIs(NoRest(start, weights).shows(system), False)
            if not told.keeps():
                for back in [noughts(ins, cells), mixed(ins, cells, 3)]:
                    self.assertIs(Keeper(back).shows(system), False)
                    self.assertNotEqual(kept_run(system, back, told.state)[cells], [NOUGHT] * cells)
        self.assertEqual(sorted(seen), [False, True])

    def test_alike_or_unlike(self):
        seen = {True: 0, False: 0}
        boxes = SYSTEMS + LARGER[::6]
        for at, one in enumerate(boxes):
            for other in boxes[at % 5::5]:
                if (one.ins(), one.outs()) == (other.ins(), other.outs()):
                    told = alike(one, other)
                    many = one.cells() + other.cells() + 2
                    same = answers(one, many) == answers(other, many)
                    seen[same] += 1
                    self.assertIsInstance(told, Alike if same else Unlike)
                    self.assertIs(told.shows(one, other), True)
                    self.assertEqual(small(one).told() == small(other).told(), same)
                    if same:
                        self.assertEqual(told.form.told(), small(one).told())
                    else:
                        self.assertTrue(told.when <= one.cells() + other.cells())
                        self.assertEqual(answers(one, told.when), answers(other, told.when))
        self.assertTrue(min(seen.values()) > 10, seen)


class SmallForms(unittest.TestCase):
    def test_one_for_all_that_are_alike(self):
        for system in SYSTEMS:
            wanted = small(system).told()
            for other in (other_cells(system), more_cells(system, 1, 1, 5), other_cells(more_cells(system, 2, 2, 6)),
                          System(*small(system).tables())):
                self.assertEqual(small(other).told(), wanted)
                told = alike(system, other)
                self.assertIs(told.found(), True)
                self.assertEqual((told.here, told.there), (carried(system), carried(other)))

    def test_no_alike_system_has_fewer_cells(self):
        for system in SYSTEMS + LARGER[::4]:
            rows, columns = corner(system)
            self.assertEqual(rows, first_cells(system))
            told = answers(system, 2 * system.cells() + 1)
            square = [[told[k + l + 1][i][j] for l, j in columns] for k, i in rows]
            self.assertNotEqual(determinant(square), NOUGHT)
            self.assertEqual(small(system).cells(), len(square))

    def test_undone_boxes_are_as_small_as_no_box(self):
        many = 0
        for system in SYSTEMS:
            if system.ins() == system.outs() and determinant(system.tables()[3]) != NOUGHT:
                many += 1
                form = small(in_row(system, remover(system)))
                self.assertEqual(form.tables(), ([], [], [[]] * system.outs(), unit(system.outs())))
        self.assertTrue(many > 9, many)


if __name__ == "__main__":
    unittest.main()
