"""Point 77, and what point 6 says of it: the rule of a line out and a line in."""

import unittest
from fractions import Fraction

from boxes import DELAY, ECHO, EMPTY, GROWING, all_boxes, of_no_use
from echohouse.errors import NoFit
from echohouse.rules import rule
from echohouse.systems import System, answers, run
from echohouse.tables import is_row, noughts, unit
from helpers import (
    LONG, NOUGHT, holds_point_six, mixed, more_cells, other_cells, plain_rank, row_of, sizes, system_of, table_of,
)


def by_rule(a, b, sent):
    """What the rule brings out, by Python's own fractions."""
    a, b, sent = ([Fraction(*number) for number in row] for row in (a, b, sent))
    out = []
    for turn in range(len(sent)):
        total = Fraction(0)
        for k in range(1, len(a) + 1):
            total += a[k - 1] * out[turn - k] if turn >= k else 0
        for k in range(len(b)):
            total += b[k] * sent[turn - k] if turn >= k else 0
        out.append(total)
    return [(number.numerator, number.denominator) for number in out]


def least(system, out, line):
    """The least r: as many as there are rows that are no sums of others, of single answers from turn 1 on."""
    cells = system.cells()
    told = [answer[out][line] for answer in answers(system, 2 * cells + 4)]
    return plain_rank([told[k + 1:k + cells + 2] for k in range(cells + 1)])


class Rule(unittest.TestCase):
    def test_by_hand(self):
        self.assertEqual(rule(EMPTY, 0, 0), ([], row_of(1)))
        self.assertEqual(rule(ECHO, 0, 0), (row_of("1/2"), row_of(1, 0)))
        self.assertEqual(rule(DELAY, 0, 0), (row_of(0, 0), row_of(0, 0, 1)))
        self.assertEqual(rule(GROWING, 0, 0), (row_of(1, 1), row_of(0, 1, 0)))
        one = System(table_of((2,)), table_of((3,)), table_of((5,)), table_of((7,)))
        self.assertEqual(rule(one, 0, 0), (row_of(2), row_of(7, 1)))
        two = System(table_of((2, 0), (0, 3)), table_of((1,), (1,)), table_of((1, 1)), table_of((0,)))
        self.assertEqual(rule(two, 0, 0), (row_of(5, -6), row_of(0, 2, -5)))

    def test_each_pair_of_lines_by_hand(self):
        # The first cell doubles, the second one triples; each line goes to and comes from one of them.
        both = System(table_of((2, 0), (0, 3)), unit(2), unit(2), table_of((0, 4), (5, 6)))
        self.assertEqual(rule(both, 0, 0), (row_of(2), row_of(0, 1)))
        self.assertEqual(rule(both, 0, 1), ([], row_of(4)))
        self.assertEqual(rule(both, 1, 0), ([], row_of(5)))
        self.assertEqual(rule(both, 1, 1), (row_of(3), row_of(6, -17)))

    def test_of_no_cells_of_use(self):
        for system in (System(unit(3), noughts(3, 1), mixed(1, 3, 2), table_of(("2/3",))),
                       System(unit(3), mixed(3, 1, 2), noughts(1, 3), table_of(("2/3",)))):
            self.assertEqual(rule(system, 0, 0), ([], row_of("2/3")))

    def test_against_runs_from_rest(self):
        for system in all_boxes():
            cells, ins = system.cells(), system.ins()
            for out in range(system.outs()):
                for line in range(ins):
                    told = rule(system, out, line)
                    self.assertIsInstance(told, tuple)
                    a, b = told
                    self.assertTrue(is_row(a, len(a)) and is_row(b, len(a) + 1))
                    sent = mixed(1, 2 * cells + 4, 5)[0]
                    inputs = [[number if at == line else NOUGHT for at in range(ins)] for number in sent]
                    outputs = run(system, [NOUGHT] * cells, inputs)[0]
                    self.assertEqual(by_rule(a, b, sent), [row[out] for row in outputs])

    def test_the_least(self):
        seen = {}
        for system in all_boxes():
            for out in range(system.outs()):
                for line in range(system.ins()):
                    wanted = least(system, out, line)
                    seen[wanted] = True
                    self.assertEqual(len(rule(system, out, line)[0]), wanted)
        self.assertEqual(sorted(seen), list(range(9)))

    def test_the_same_for_alike_systems(self):
        for cells, ins, outs in sizes(5):
            system = system_of(cells, ins, outs, 4)
            for other in (other_cells(system), more_cells(system, 1, 2, 3)):
                for out in range(outs):
                    for line in range(ins):
                        self.assertEqual(rule(other, out, line), rule(system, out, line))

    def test_no_fit(self):
        wrong = (-1, -2, 2, 3, 10 ** 29, True, False, None, "0", "", "a", [], [0], (), (0,), (0, 1), {}, 0.0, object())
        for cells, ins, outs in sizes(2) + [(8, 2, 2)]:
            system = system_of(cells, ins, outs, 1)
            for thing in wrong + tuple(range(max(ins, outs), 3)):
                with self.assertRaises(NoFit):
                    rule(system, thing, 0)
                with self.assertRaises(NoFit):
                    rule(system, 0, thing)
                with self.assertRaises(NoFit):
                    rule(system, thing, thing)
        with self.assertRaises(NoFit):
            rule(system_of(2, 2, 1, 1), 1, 0)
        with self.assertRaises(NoFit):
            rule(system_of(2, 1, 2, 1), 0, 1)

    def test_point_six(self):
        for system in (EMPTY, ECHO, system_of(3, 2, 2, 1), of_no_use()[-1]):
            before = system.told()
            holds_point_six(self, lambda: rule(system, 0, 0), [])
            holds_point_six(self, lambda: rule(System(*system.tables()), 0, 0), [])
            self.assertEqual(system.told(), before)

    def test_long_numbers(self):
        system = System([[(LONG, 2)]], [[(1, LONG)]], [[(3, 1)]], [[(1, LONG)]])
        self.assertEqual(rule(system, 0, 0), ([(LONG, 2)], [(1, LONG), (6 - LONG, 2 * LONG)]))


if __name__ == "__main__":
    unittest.main()
