"""Point 44, and what point 7 says of it: the system of a wiring, against the wiring's own run."""

import unittest
from itertools import permutations

from echohouse.carrying import from_wiring
from echohouse.systems import System, run
from echohouse.tables import unit
from echohouse.wiring import Wiring
from helpers import LONG, NOUGHT, lists_in, mixed, row_of, table_of

# A wiring's text and its four tables, reckoned by hand.
BY_HAND = (
    ("in a\nout a", ([], [], [[]], table_of((1,)))),
    ("in a\nin b\nsum s a -b\nout s\nout b", ([], [], [[], []], table_of((1, -1), (0, 1)))),
    ("in a\ngain g -2/3 a\nout g\nout a", ([], [], [[], []], table_of(("-2/3",), (1,)))),
    ("in a\ncell c a\nout c", (table_of((0,)), table_of((1,)), table_of((1,)), table_of((0,)))),
    ("in a\ncell c s\ngain g 1/2 c\nsum s a g\nout s",
     (table_of(("1/2",)), table_of((1,)), table_of(("1/2",)), table_of((1,)))),
    ("in a\ncell c c\nout a", (table_of((1,)), table_of((0,)), table_of((0,)), table_of((1,)))),
    ("in left\nin right\ncell one right\ncell two sums\nsum sums left -one right -two\ngain half -1/2 sums\nout half\nout two",
     (table_of((0, 0), (-1, -1)), table_of((0, 1), (1, 1)), table_of(("1/2", "1/2"), (0, 1)),
      table_of(("-1/2", "-1/2"), (0, 0)))),
    ("out d\ncell d c\nin b\ncell c b\nin a\nout s\nsum s a a -c d",
     (table_of((0, 1), (0, 0)), table_of((0, 0), (1, 0)), table_of((1, 0), (1, -1)), table_of((0, 0), (0, 2)))),
    ("in a\ncell w x\ncell x y\ncell y z\ncell z s\nsum s a -w\nout w",
     (table_of((0, 1, 0, 0), (0, 0, 1, 0), (0, 0, 0, 1), (-1, 0, 0, 0)), table_of((0,), (0,), (0,), (1,)),
      table_of((1, 0, 0, 0)), table_of((0,)))),
    ("in a\nsum s a -a\nsum t s s s s\ncell c t\nout t", (table_of((0,)), table_of((0,)), table_of((0,)), table_of((0,)))),
)


def made_wirings():
    """Texts of wirings of one or two lines in and out and none to four cells, with gains and sums among them."""
    texts = [text for text, tables in BY_HAND]
    seed = 4
    for cells in range(5):
        for ins in (1, 2):
            for outs in (1, 2):
                names = ["x", "y"][:ins] + ["ca", "cb", "cc", "cd"][:cells]
                rows = [f"in {name}" for name in names[:ins]]
                inner = []
                for at in range(6):
                    seed = (seed * 1103515245 + 12345) & 0x7FFFFFFF
                    known = names + inner
                    picks = [known[(seed >> shift) % len(known)] for shift in (8, 13, 18)]
                    name = "g" + "zyxwvu"[at]
                    rows.append(f"gain {name} {(seed >> 5) % 199 - 99}/7 {picks[0]}" if at % 2 and ((seed >> 5) % 199 - 99) % 7
                                else f"sum {name} {picks[0]} -{picks[1]} {picks[2]}")
                    inner.append(name)
                rows += [f"cell {name} {inner[at]}" for at, name in enumerate(names[ins:])]
                rows += [f"out {inner[-1 - at]}" for at in range(outs)]
                texts += ["\n".join(rows), "\n".join(rows[::-1]), "\n".join(rows[1::2] + rows[::2])]
    return texts


class Carried(unittest.TestCase):
    def test_by_hand(self):
        for text, tables in BY_HAND:
            with self.subTest(text=text):
                told = from_wiring(Wiring(text))
                self.assertIsInstance(told, System)
                self.assertEqual(told.tables(), tables)

    def test_rows_in_any_order(self):
        rows = ["in a", "cell c s", "gain g 1/2 c", "sum s a g", "out s"]
        told = from_wiring(Wiring("\n".join(rows))).told()
        for some in permutations(rows):
            self.assertEqual(from_wiring(Wiring("\n".join(some))).told(), told)

    def test_cells_and_lines_are_those_of_the_wiring(self):
        for text in made_wirings():
            wiring = Wiring(text)
            system = from_wiring(wiring)
            self.assertEqual((system.cells(), system.ins(), system.outs()),
                             (len(wiring.cell_names()), wiring.ins(), wiring.outs()))

    def test_both_runs_are_the_same(self):
        for text in made_wirings():
            with self.subTest(text=text):
                wiring = Wiring(text)
                system = from_wiring(wiring)
                cells, ins = system.cells(), system.ins()
                for start in [[NOUGHT] * cells] + unit(cells) + mixed(2, cells, 5) + [[(LONG, 12)] * cells]:
                    for inputs in ([], mixed(1, ins, 1), unit(ins), mixed(9, ins, 2), [[(1, LONG)] * ins]):
                        self.assertEqual(run(system, start, inputs), wiring.run(start, inputs))
                inputs = mixed(60, ins, 3)
                self.assertEqual(run(system, [NOUGHT] * cells, inputs), wiring.run([NOUGHT] * cells, inputs))

    def test_the_same_each_time_and_the_wiring_stays(self):
        for text, tables in BY_HAND:
            wiring = Wiring(text)
            cells, ins = len(wiring.cell_names()), wiring.ins()
            before = wiring.run(mixed(1, cells, 1)[0], mixed(3, ins, 2))
            one, other = from_wiring(wiring), from_wiring(wiring)
            self.assertEqual(one.told(), other.told())
            self.assertEqual(from_wiring(Wiring(text)).told(), one.told())
            for found in lists_in(one.tables()):
                found.append("more")
            self.assertEqual(one.tables(), tables)
            self.assertEqual(wiring.run(mixed(1, cells, 1)[0], mixed(3, ins, 2)), before)
            self.assertEqual(wiring.text(), text)

    def test_the_greatest_gains(self):
        told = from_wiring(Wiring("in a\ncell c g\ngain g 99 h\ngain h -97/12 s\nsum s a a a -c\nout h"))
        self.assertEqual(told.tables(), (table_of(("3201/4",)), table_of(("-9603/4",)), table_of(("97/12",)), table_of(("-97/4",))))
        self.assertEqual(run(told, row_of(1), [row_of(0)]), (table_of(("97/12",)), row_of("3201/4")))


if __name__ == "__main__":
    unittest.main()
