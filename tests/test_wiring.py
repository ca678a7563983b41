"""Points 30 to 32 and 34, and what point 6 says of them: wirings out of texts, and their plain run."""

import unittest
from itertools import permutations, product as pairs_of

from echohouse.errors import NoFit, NoPart, NoText, NoTurns, Ring, TooMany, Twice
from echohouse.fracs import frac
from echohouse.parts import Cell, Gain, In, Out, Sum
from echohouse.wiring import Wiring
from helpers import LONG, NOUGHT, holds_point_six, mixed, no_rows, row_of, table_of

# An echo: what comes in, and half of what came out the turn before.
ECHO = "in a\ncell c s\ngain g 1/2 c\nsum s a g\nout s"
TWO = "in left\nin right\ncell one right\ncell two sums\nsum sums left -one right -two\ngain half -1/2 sums\nout half\nout two"
ENDS = "in a\nout a"


def rows_of(*rows):
    return "\n".join(rows)


class Refused(unittest.TestCase):
    def refused(self, text, kind, field=None, thing=None):
        with self.subTest(text=text):
            with self.assertRaises(kind) as taken:
                Wiring(text)
            self.assertIs(type(taken.exception), kind)
            if field:
                self.assertEqual(getattr(taken.exception, field), thing)


class Rows(Refused):
    RIGHT = (
        "in b", "in abcdefgh", "in in", "in z", "cell b a", "cell b b", "cell abcdefgh abcdefgh", "cell cell cell",
        "gain b 1 a", "gain b 0 a", "gain b -1 a", "gain b 99 a", "gain b -99 a", "gain b 1/12 a", "gain b 99/10 a",
        "gain b -97/12 a", "gain b 5/11 a", "gain gain 1/2 a", "gain b 98 a", "gain b 1/2 a",
        "sum b a", "sum b -a", "sum b a a", "sum b a a a", "sum b a a a a", "sum b -a -a -a -a", "sum sum -a",
        "out a",
    )
    WRONG = (
        "", " ", "in", "in ", "in  b", " in b", "in b ", "in b c", "in B", "in b1", "in abcdefghi", "in -b", "in 1",
        "in b_c", "In b", "IN b", "inn b", "i b", "in b\t", "in\tb",
        "cell b", "cell b a a", "cell b  a", "cell b -a", "cell b A", "cell -b a", "cell b abcdefghi", "cell", "cell b ",
        "gain b a", "gain b 1", "gain b 1 ", "gain b 1 a a", "gain b a 1", "gain 1 b a", "gain b 1 -a", "gain b  1 a",
        "gain b 100 a", "gain b -100 a", "gain b 1/13 a", "gain b 2/4 a", "gain b 100/3 a", "gain b -100/11 a",
        "gain b 1/1 a", "gain b 01 a", "gain b +1 a", "gain b -0 a", "gain b 0/1 a", "gain b 1/0 a", "gain b 1/-2 a",
        "gain b 1.5 a", "gain b 1/ a", "gain b /2 a", "gain b - a", "gain B 1 a", "gain b 1 A", "gain b one a",
        "gain b 1 abcdefghi", "gain abcdefghi 1 a", "gain", "gain b 99/14 a", "gain b 6/12 a",
        "gain b " + "9" * 31 + " a", "gain b 1/" + "9" * 31 + " a",
        "sum b", "sum", "sum b ", "sum b a a a a a", "sum b a  a", "sum b --a", "sum b -", "sum b - a", "sum b +a",
        "sum -b a", "sum b a ", "sum b A", "sum b a 1", "sum b a abcdefghi", "sum B a", "sum b a-", "sum b -a-a",
        "out", "out ", "out -a", "out a a", "out  a", "out A", "out a ", " out a", "out abcdefghi",
        "delay b a", "box", "none", "#", "in b; in c",
    )

    def test_each_form(self):
        for row in self.RIGHT:
            with self.subTest(row=row):
                wiring = Wiring(rows_of("in a", row, "out a"))
                self.assertEqual(wiring.parts()[1].row(), row)
                self.assertEqual(wiring.text(), rows_of("in a", row, "out a"))

    def test_no_row(self):
        for row in self.WRONG:
            self.refused(rows_of("in a", row, "out a"), NoText, "place", 1)
            self.refused(rows_of(row, "in a", "out a"), NoText, "place", 0)
            self.refused(rows_of("in a", "out a", row), NoText, "place", 2)

    def test_the_first_such_row(self):
        self.refused("", NoText, "place", 0)
        self.refused("\n", NoText, "place", 0)
        self.refused(ENDS + "\n", NoText, "place", 2)
        self.refused("\n" + ENDS, NoText, "place", 0)
        self.refused("in a\n\nout a", NoText, "place", 1)
        self.refused("in a\nout a\nin B\nin C", NoText, "place", 2)
        self.refused("\n".join(["in a"] * 30 + ["in"]), NoText, "place", 30)

    def test_names_of_one_and_eight_letters(self):
        for name in ("a", "z", "abcdefgh", "zzzzzzzz", "out", "sum", "gain", "cell", "in"):
            wiring = Wiring(rows_of(f"in {name}", f"out {name}"))
            self.assertEqual(wiring.parts()[0].name, name)
            self.assertEqual(wiring.run([], [row_of(3)]), ([row_of(3)], []))


class WhichGoesFirst(Refused):
    def test_twice(self):
        self.refused("in a\nin a\nout a", Twice, "name", "a")
        self.refused("in a\ncell b a\nsum b a\ngain a 1 a\nout a", Twice, "name", "b")
        self.refused("in b\nin a\nsum a b\nsum b a\nout a", Twice, "name", "a")
        self.refused("out a\nin a\nout a\ncell x a\ncell y a\ngain y 1 a\ngain x 1 a", Twice, "name", "y")

    def test_no_part(self):
        self.refused("in a\nout b", NoPart, "name", "b")
        self.refused("out z\nin a\nout b", NoPart, "name", "z")
        self.refused("in a\nsum s a y -x b\nout b", NoPart, "name", "y")
        self.refused("in a\nsum s a -x y\nout b", NoPart, "name", "x")
        self.refused("in a\ncell c q\ngain g 1 r\nout a", NoPart, "name", "q")
        self.refused("in a\ngain g 1 r\ncell c q\nout a", NoPart, "name", "r")

    def test_too_many(self):
        gains = [f"gain g{letter} 1 a" for letter in "abcdefghijklmnopqrstuv"]
        self.assertEqual(len(Wiring(rows_of("in a", *gains, "out a")).parts()), 24)
        self.refused(rows_of("in a", *gains, "out a", "gain h 1 a"), TooMany)
        cells = [f"cell {letter} a" for letter in "bcde"]
        self.assertEqual(Wiring(rows_of("in a", *cells, "out a")).cell_names(), ["b", "c", "d", "e"])
        self.refused(rows_of("in a", *cells, "cell f a", "out a"), TooMany)
        self.assertEqual(Wiring("in a\nin b\nout a\nout b").ins(), 2)
        self.refused("in a\nin b\nin c\nout a", TooMany)
        self.refused("in a\nout a\nout a\nout a", TooMany)

    def test_no_fit(self):
        self.refused("in a", NoFit)
        self.refused("cell c c\nout c", NoFit)
        self.refused("cell c c", NoFit)
        self.refused("sum s s", NoFit)
        self.refused("in a\nsum s s", NoFit)
        self.refused("sum s s\nout s", NoFit)

    def test_of_several_the_first(self):
        many = [f"cell {letter} q" for letter in "bcdefg"]
        self.refused(rows_of("in a", "in a", "out z", *many, "sum s s", "what"), NoText, "place", 10)
        self.refused(rows_of("out z", "in a", "in a", *many, "sum s s"), Twice, "name", "a")
        self.refused(rows_of("in a", "out z", *many, "sum s s"), NoPart, "name", "z")
        self.refused(rows_of(*[f"cell {letter} s" for letter in "bcdefg"], "sum s s"), TooMany)
        self.refused(rows_of("in a", "in b", "in c", "sum s s"), TooMany)
        self.refused(rows_of("in a", "sum s s"), NoFit)
        self.refused(rows_of("in a", "sum s s", "out s"), Ring, "names", ["s"])
        self.refused(rows_of("in a", *["out b"] * 30), NoPart, "name", "b")
        self.refused(rows_of(*["in a"] * 30), Twice, "name", "a")


def plain_ring(wanted):
    """The ring that is told, out of all lists of names."""
    for many in range(1, len(wanted) + 1):
        for names in permutations(sorted(wanted), many):
            ring = list(names)
            if ring[0] == min(ring) and all(after in wanted[name] for name, after in zip(ring, ring[1:] + ring[:1])):
                return ring
    return None


class Rings(Refused):
    def test_of_one_and_two_and_more(self):
        self.refused("in a\nsum s a s\nout s", Ring, "names", ["s"])
        self.refused("in a\ngain g 1/2 g\nout a", Ring, "names", ["g"])
        self.refused("in a\ngain g 0 s\nsum s a -g\nout a", Ring, "names", ["g", "s"])
        self.refused("in a\nsum z a y\nsum y x -a\ngain x 3 z\nout z", Ring, "names", ["x", "z", "y"])
        self.refused("in a\ngain d 1 c\ngain c 1 b\ngain b 1 e\ngain e 1 d\nout a", Ring, "names", ["b", "e", "d", "c"])

    def test_of_the_fewest_names(self):
        self.refused("in x\nsum a b\nsum b c a\nsum c a\nout x", Ring, "names", ["a", "b"])
        self.refused("in x\nsum a b\nsum b c\nsum c a d\nsum d e\nsum e d\nout x", Ring, "names", ["d", "e"])
        self.refused("in x\nsum a b\nsum b a\nsum z z\nout x", Ring, "names", ["z"])

    def test_the_least_list(self):
        self.refused("in x\nsum z z\nsum y y\nsum b c\nsum c b\nout x", Ring, "names", ["y"])
        self.refused("in x\nsum d c\nsum c d\nsum b a\nsum a b\nout x", Ring, "names", ["a", "b"])
        self.refused("in x\nsum a d c\nsum c b\nsum b a\nsum d b\nout x", Ring, "names", ["a", "c", "b"])
        self.refused("in x\nsum a c d\nsum c e f\nsum d b\nsum e a\nsum f a\nsum b a\nout x", Ring, "names", ["a", "c", "e"])
        self.refused("in x\nsum ab aa\nsum aa ab\nsum a ac\nsum ac a\nout x", Ring, "names", ["a", "ac"])

    def test_a_longer_way_round_a_shorter_ring(self):
        self.refused("in x\nsum a b c\nsum b d\nsum c e\nsum d c\nsum e f\nsum f c g\nsum g a\nout x",
                     Ring, "names", ["c", "e", "f"])

    def test_against_all_lists_of_names(self):
        names = "bcdef"
        seed, seen = 5, set()
        for turn in range(300):
            wanted, rows = {}, ["in a", "out a", "cell x b"]
            for name in names:
                seed = (seed * 1103515245 + 12345) & 0x7FFFFFFF
                wanted[name] = [("axaa" + names)[(seed >> shift) % 9] for shift in (7, 12, 17)][:1 + (seed >> 24) % 3]
                rows.append(f"sum {name} " + " ".join(wanted[name]))
            ring = plain_ring(wanted)
            seen.add(ring and len(ring))
            if ring is None:
                Wiring("\n".join(rows))
            else:
                self.refused("\n".join(rows), Ring, "names", ring)
        self.assertTrue({None, 1, 2, 3} <= seen, seen)

    def test_long_rings(self):
        names = [first + second for first, second in pairs_of("bcde", "vwxyz")]
        rows = [f"sum {name} {after} a" for name, after in zip(names, names[1:] + names[:1])]
        self.refused(rows_of("in a", "out a", *rows[::-1]), Ring, "names", names)

    def test_cells_and_lines_in_make_no_ring(self):
        for text in ("in a\ncell c c\nout c", "in a\ncell c g\ngain g 1 c\nout g", ECHO, TWO,
                     "in a\ncell c d\ncell d c\nout a", "in a\ncell c s\nsum s c t\nsum t c a\nout s"):
            Wiring(text)


class Tells(unittest.TestCase):
    def test_what_it_tells(self):
        wiring = Wiring(TWO)
        self.assertEqual(wiring.text(), TWO)
        self.assertEqual([type(part) for part in wiring.parts()], [In, In, Cell, Cell, Sum, Gain, Out, Out])
        self.assertEqual([part.row() for part in wiring.parts()], TWO.split("\n"))
        self.assertEqual((wiring.ins(), wiring.outs()), (2, 2))
        self.assertEqual(wiring.cell_names(), ["one", "two"])
        self.assertEqual(wiring.order(), ["sums", "half"])
        wiring = Wiring(ENDS)
        self.assertEqual((wiring.ins(), wiring.outs(), wiring.cell_names(), wiring.order()), (1, 1, [], []))

    def test_rows_in_any_order(self):
        rows = ECHO.split("\n")
        for some in permutations(rows):
            wiring = Wiring("\n".join(some))
            self.assertEqual([part.row() for part in wiring.parts()], list(some))
            self.assertEqual(wiring.order(), ["g", "s"])
            self.assertEqual(wiring.run(row_of(4), table_of((1,), (0,), (0,))), (table_of((3,), ("3/2",), ("3/4",)), row_of("3/4")))

    def test_cells_and_lines_in_the_order_of_their_rows(self):
        wiring = Wiring("out z\ncell y a\nin b\ncell c b\nin a\nout a\ncell z c\ncell x x")
        self.assertEqual(wiring.cell_names(), ["y", "c", "z", "x"])
        outputs, end = wiring.run(row_of(1, 2, 3, 4), [row_of(5, 6)])
        self.assertEqual(outputs, [row_of(3, 6)])
        self.assertEqual(end, row_of(6, 5, 2, 4))

    def test_order(self):
        for rows, order in (
            (["sum c a", "sum b a", "gain d 1 a"], ["b", "c", "d"]),
            (["sum b c", "sum c d", "sum d a"], ["d", "c", "b"]),
            (["sum b d", "sum c a", "sum d a"], ["c", "d", "b"]),
            (["sum b e", "sum c b", "sum d a", "sum e a"], ["d", "e", "b", "c"]),
            (["sum z a", "sum b z", "sum y b", "sum c y a z"], ["z", "b", "y", "c"]),
            (["sum b x", "cell x b", "sum c b"], ["b", "c"]),
            (["sum c b b -b", "sum b a -a"], ["b", "c"]),
            (["sum ba b", "sum b a", "sum ab ba", "sum aa a"], ["aa", "b", "ba", "ab"]),
        ):
            for some in permutations(rows):
                self.assertEqual(Wiring(rows_of("in a", *some, "out a")).order(), order)


class Runs(unittest.TestCase):
    def test_by_hand(self):
        echo = Wiring(ECHO)
        self.assertEqual(echo.run(row_of(0), table_of((1,), (0,), (0,), (4,))),
                         (table_of((1,), ("1/2",), ("1/4",), ("33/8",)), row_of("33/8")))
        two = Wiring(TWO)
        # sums = left - one + right - two; one takes right, two takes sums.
        self.assertEqual(two.run(row_of(1, 2), table_of((3, 4), ("1/2", 0))),
                         (table_of((-2, 2), ("15/4", 4)), row_of(0, "-15/2")))

    def test_every_kind_at_once(self):
        wiring = Wiring("out t\nin a\ncell c d\ncell d s\ngain g -3/4 d\nsum s a a -c g\nsum t s -s -g\nout c")
        state, given = row_of("1/2", "2/3"), row_of("-1/5")
        # g = -1/2; s = -2/5 - 1/2 - 1/2 = -7/5; t = 1/2.
        self.assertEqual(wiring.run(state, [given]), ([row_of("1/2", "1/2")], row_of("2/3", "-7/5")))

    def test_a_line_out_tells_what_a_cell_holds_at_this_turn(self):
        wiring = Wiring("in a\ncell c a\nout c")
        self.assertEqual(wiring.run(row_of(9), table_of((1,), (2,), (3,))), (table_of((9,), (1,), (2,)), row_of(3)))
        wiring = Wiring("in a\ncell c d\ncell d c\nout c")
        self.assertEqual(wiring.run(row_of(1, 2), table_of((0,), (0,), (0,))), (table_of((1,), (2,), (1,)), row_of(2, 1)))

    def test_turn_by_turn(self):
        wiring = Wiring(TWO)
        for many in (0, 1, 2, 7, 60):
            inputs = mixed(many, 2, many)
            state, outputs = row_of("1/3", -2), []
            for given in inputs:
                one, state = wiring.run(state, [given])
                outputs += one
            self.assertEqual(wiring.run(row_of("1/3", -2), inputs), (outputs, state))
            self.assertEqual(len(outputs), many)

    def test_no_turns(self):
        self.assertEqual(Wiring(ECHO).run(row_of("5/7"), []), ([], row_of("5/7")))
        self.assertEqual(Wiring(ENDS).run([], []), ([], []))

    def test_sixty_turns_and_long_numbers(self):
        wiring = Wiring("in a\ncell c g\ngain g -97/12 s\nsum s a c\nout g")
        outputs, end = wiring.run([NOUGHT], [row_of(1)] + table_of((0,)) * 59)
        self.assertEqual(outputs, [[frac((-97) ** (turn + 1), 12 ** (turn + 1))] for turn in range(60)])
        self.assertEqual(end, outputs[-1])
        self.assertEqual(Wiring(ECHO).run([(LONG, 1)], [[(1, LONG)]]), ([[frac(LONG * LONG + 2, 2 * LONG)]],
                                                                       [frac(LONG * LONG + 2, 2 * LONG)]))

    def test_refusals(self):
        for text, cells, ins in ((ECHO, 1, 1), (TWO, 2, 2), (ENDS, 0, 1)):
            wiring = Wiring(text)
            start, given = mixed(1, cells, 1)[0], mixed(1, ins, 2)[0]
            before = wiring.run(start, [given])
            for thing in no_rows(cells):
                for inputs in ([given], [], [None], None, [given] * 61):
                    with self.assertRaises(NoFit):
                        wiring.run(thing, inputs)
            for inputs in (None, 0, "", "ab", (), (given,), {}, {0: given}, True, [given] * 61, [None] * 61):
                with self.assertRaises(NoTurns):
                    wiring.run(start, inputs)
            for thing in no_rows(ins):
                for inputs in ([thing], [given, thing], [thing] + [given] * 59):
                    with self.assertRaises(NoFit):
                        wiring.run(start, inputs)
            self.assertEqual(wiring.run(start, [given]), before)


class OwnLists(unittest.TestCase):
    def test_point_six(self):
        for text, cells, ins in ((ECHO, 1, 1), (TWO, 2, 2), (ENDS, 0, 1)):
            wiring = Wiring(text)
            for many in (0, 1, 5):
                holds_point_six(self, wiring.run, [mixed(1, cells, 1)[0], mixed(many, ins, 2)])
                holds_point_six(self, lambda start, inputs: Wiring(text).run(start, inputs),
                                [mixed(1, cells, 1)[0], mixed(many, ins, 2)])
            for asked in (wiring.parts, wiring.cell_names, wiring.order):
                kept = list(asked())
                asked().clear()
                asked().append("more")
                self.assertEqual(asked(), kept)
                self.assertIsNot(asked(), asked())
            self.assertEqual(wiring.run(mixed(1, cells, 1)[0], mixed(3, ins, 2)),
                             Wiring(text).run(mixed(1, cells, 1)[0], mixed(3, ins, 2)))

    def test_a_refusal_has_its_own_list(self):
        rings = []
        for turn in range(2):
            try:
                Wiring("in a\ngain g 0 s\nsum s a -g\nout a")
            except Ring as refusal:
                rings.append(refusal.names)
        rings[0].append("more")
        self.assertEqual(rings[1], ["g", "s"])


if __name__ == "__main__":
    unittest.main()
