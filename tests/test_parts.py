"""Point 33, and what point 6 says of it: each kind of part, made by hand and out of a text."""

import unittest

from echohouse.parts import Cell, Gain, In, Out, Part, Sum
from echohouse.wiring import Wiring
from helpers import LONG

VALUES = {"a": (1, 2), "b": (-2, 3), "c": (0, 1), "d": (LONG, 1), "own": (7, 1)}

# A part, its row, what it wants, what it tells of VALUES.
PARTS = (
    (In("a"), "in a", (), (1, 2)),
    (In("own"), "in own", (), (7, 1)),
    (Cell("own", "a"), "cell own a", ("a",), (1, 2)),
    (Cell("own", "own"), "cell own own", ("own",), (7, 1)),
    (Gain("own", (2, 3), "a"), "gain own 2/3 a", ("a",), (1, 3)),
    (Gain("own", (-5, 1), "b"), "gain own -5 b", ("b",), (10, 3)),
    (Gain("own", (0, 1), "b"), "gain own 0 b", ("b",), (0, 1)),
    (Gain("own", (1, LONG), "d"), f"gain own 1/{LONG} d", ("d",), (1, 1)),
    (Sum("own", ((1, "a"),)), "sum own a", ("a",), (1, 2)),
    (Sum("own", ((-1, "a"),)), "sum own -a", ("a",), (-1, 2)),
    (Sum("own", ((1, "a"), (-1, "b"))), "sum own a -b", ("a", "b"), (7, 6)),
    (Sum("own", ((-1, "b"), (1, "a"), (1, "a"), (1, "c"))), "sum own -b a a c", ("b", "a", "a", "c"), (5, 3)),
    (Sum("own", ((1, "a"), (-1, "a"))), "sum own a -a", ("a", "a"), (0, 1)),
    (Out("b"), "out b", ("b",), (-2, 3)),
)
TEXT = "in x\nout s\ncell long g\ngain g -99/10 abcdefgh\nsum abcdefgh x -long long -x\nsum s g\nout x\nin y\nsum t -y"


class Parts(unittest.TestCase):
    def test_row_wants_and_tells(self):
        for part, row, wants, number in PARTS:
            with self.subTest(row=row):
                self.assertEqual(part.row(), row)
                self.assertIsInstance(part.wants(), tuple)
                self.assertEqual(part.wants(), wants)
                self.assertEqual(part.tells(VALUES), number)
                self.assertEqual((part.row(), part.wants(), part.tells(VALUES)), (row, wants, number))

    def test_only_what_it_needs_is_asked_for(self):
        for part, row, wants, number in PARTS:
            needed = {name: VALUES[name] for name in wants or (part.name,)}
            before = dict(needed)
            self.assertEqual(part.tells(needed), number)
            self.assertEqual(needed, before)

    def test_each_value_counts(self):
        self.assertEqual(Sum("s", ((1, "a"), (1, "b"), (-1, "c"), (-1, "d"))).tells(
            {"a": (1000, 1), "b": (100, 1), "c": (10, 1), "d": (1, 1)}), (1089, 1))

    def test_fields(self):
        self.assertEqual(In("a").name, "a")
        cell, gain, out = Cell("a", "b"), Gain("a", (1, 2), "b"), Out("b")
        self.assertEqual((cell.name, cell.source), ("a", "b"))
        self.assertEqual((gain.name, gain.by, gain.source), ("a", (1, 2), "b"))
        self.assertEqual(out.source, "b")
        one = Sum("a", ((1, "b"), (-1, "c")))
        self.assertEqual((one.name, one.terms), ("a", ((1, "b"), (-1, "c"))))

    def test_a_part_has_the_fields_that_it_is_made_of(self):
        for part, fields in (
            (In("a"), {"name"}), (Cell("a", "b"), {"name", "source"}), (Gain("a", (1, 1), "b"), {"name", "by", "source"}),
            (Sum("a", ((1, "b"),)), {"name", "terms"}), (Out("b"), {"source"}),
        ):
            self.assertEqual({field for field in ("name", "source", "by", "terms") if hasattr(part, field)}, fields)

    def test_kinds(self):
        kinds = (In, Cell, Gain, Sum, Out)
        for kind in kinds:
            self.assertTrue(issubclass(kind, Part))
            for other in kinds:
                self.assertEqual(issubclass(kind, other), kind is other)

    def test_a_plain_part(self):
        self.assertIsInstance(Part().row(), str)
        self.assertEqual(Part().wants(), ())


class OutOfAText(unittest.TestCase):
    def test_kinds_and_fields(self):
        parts = Wiring(TEXT).parts()
        self.assertEqual([type(part) for part in parts], [In, Out, Cell, Gain, Sum, Sum, Out, In, Sum])
        self.assertEqual([part.row() for part in parts], TEXT.split("\n"))
        self.assertEqual([part.wants() for part in parts], [
            (), ("s",), ("g",), ("abcdefgh",), ("x", "long", "long", "x"), ("g",), ("x",), (), ("y",)])
        self.assertEqual((parts[2].name, parts[2].source), ("long", "g"))
        self.assertEqual((parts[3].name, parts[3].by, parts[3].source), ("g", (-99, 10), "abcdefgh"))
        self.assertEqual(parts[4].terms, ((1, "x"), (-1, "long"), (1, "long"), (-1, "x")))
        self.assertEqual(parts[5].terms, ((1, "g"),))
        self.assertEqual(parts[8].terms, ((-1, "y"),))
        self.assertEqual(parts[6].source, "x")

    def test_what_they_tell(self):
        values = {"x": (1, 2), "y": (1, 5), "long": (1, 3), "g": (5, 1), "abcdefgh": (2, 1), "s": (9, 1)}
        self.assertEqual([part.tells(values) for part in Wiring(TEXT).parts()], [
            (1, 2), (9, 1), (5, 1), (-99, 5), (0, 1), (5, 1), (1, 2), (1, 5), (-1, 5)])


if __name__ == "__main__":
    unittest.main()
