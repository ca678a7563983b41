"""Point 12: the refusals."""

import unittest
from copy import deepcopy

from echohouse import errors
from echohouse.errors import (
    EchoError, Flat, NoFit, NoFraction, NoLine, NoPart, NoTable, NoText, NoTurns, Ring, TooMany, Twice,
)

WORDS = {
    NoFraction: "no fraction", NoTable: "no table", NoFit: "no fit", NoTurns: "no turns", TooMany: "too many",
    Flat: "flat", NoText: "no text", NoPart: "no part", Twice: "twice", Ring: "ring", NoLine: "no line",
}
OF_A_TEXT = (EchoError, NoFraction, NoTable, NoFit, NoTurns, TooMany)
FIELDS = (
    (Flat, "numbers", [(1, 2), (0, 1)]), (Flat, "numbers", []),
    (NoText, "place", 0), (NoText, "place", 23),
    (NoPart, "name", "left"), (Twice, "name", "right"),
    (Ring, "names", ["a"]), (Ring, "names", ["a", "c", "b"]),
    (NoLine, "line", "boxes"), (NoLine, "line", ""), (NoLine, "line", None), (NoLine, "line", 5),
    (NoLine, "line", [["x"], {"a": [1]}]), (NoLine, "line", ("x", [1])), (NoLine, "line", {"a": ["b"]}),
)


def nested(inner, deep, kind):
    """So many nests round a thing: lists, tuples, dicts, or all three."""
    for turn in range(deep):
        inner = ([inner, "beside"], ("beside", inner), {"at": inner})[turn % 3 if kind == 3 else kind]
    return inner


def unnested(thing, deep, kind):
    for turn in reversed(range(deep)):
        thing = thing[(0, 1, "at")[turn % 3 if kind == 3 else kind]]
    return thing


class Refusals(unittest.TestCase):
    def made(self):
        return [kind("why") for kind in OF_A_TEXT] + [kind(thing) for kind, field, thing in FIELDS]

    def test_each_stands_straight_under_echo_error(self):
        self.assertEqual(EchoError.__bases__, (ValueError,))
        for kind in WORDS:
            with self.subTest(kind=kind.__name__):
                self.assertEqual(kind.__bases__, (EchoError,))

    def test_none_stands_under_another_one(self):
        for kind in WORDS:
            for other in WORDS:
                if kind is not other:
                    self.assertFalse(issubclass(kind, other), (kind, other))

    def test_no_further_refusals(self):
        there = [thing for thing in vars(errors).values() if isinstance(thing, type)]
        self.assertCountEqual(there, [EchoError] + list(WORDS))

    def test_words(self):
        self.assertEqual(EchoError("why").word(), "refused")
        seen = set()
        for refusal in self.made():
            if not type(refusal) is EchoError:
                self.assertEqual(refusal.word(), WORDS[type(refusal)])
                self.assertEqual(refusal.word(), refusal.word())
                seen.add(type(refusal))
        self.assertEqual(seen, set(WORDS))

    def test_fields(self):
        for kind, field, thing in FIELDS:
            with self.subTest(kind=kind.__name__, thing=thing):
                self.assertEqual(getattr(kind(thing), field), thing)

    def test_raised_and_taken(self):
        for refusal in self.made():
            with self.assertRaises(ValueError):
                raise refusal
            with self.assertRaises(EchoError):
                raise refusal
            with self.assertRaises(type(refusal)) as taken:
                raise refusal
            self.assertEqual(taken.exception.word(), refusal.word())

    def test_field_line_is_any_thing(self):
        thing = object()
        self.assertIs(NoLine(thing).line, thing)
        self.assertIs(NoLine(True).line, True)
        self.assertEqual(NoLine(b"x").line, b"x")
        within = []
        within.append(within)
        self.assertEqual(len(NoLine(within).line), 1)

    def test_what_is_changed_later_changes_nothing(self):
        numbers = [(1, 2), (3, 1)]
        names = ["a", "b"]
        line = [["x"], ("y", [1]), {"z": [2]}]
        flat, ring, no_line = Flat(numbers), Ring(names), NoLine(line)
        numbers.append((5, 1))
        names.clear()
        line[0].append("more")
        line[1][1].append("more")
        line[2]["z"].append("more")
        line.append("more")
        self.assertEqual(flat.numbers, [(1, 2), (3, 1)])
        self.assertEqual(ring.names, ["a", "b"])
        self.assertEqual(no_line.line, [["x"], ("y", [1]), {"z": [2]}])

    def test_a_line_is_kept_as_it_was_however_deep_it_nests(self):
        for deep in (0, 1, 7, 8, 9, 40, 400, 5000, 100000):
            for kind in range(4):
                inner = ["x", {"y": [1]}]
                line = nested(inner, deep, kind)
                kept = NoLine(line).line
                inner[1]["y"].append(2)
                inner.append("more")
                self.assertEqual(unnested(kept, deep, kind), ["x", {"y": [1]}])
                self.assertEqual(unnested(line, deep, kind), ["x", {"y": [1, 2]}, "more"])
                unnested(kept, deep, kind).clear()
                self.assertEqual(len(inner), 3)

    def test_a_line_of_many_things(self):
        line = [[at, (at, [at]), {at: [at], (at, 1): at}, [], (), {}] for at in range(3000)]
        kept = NoLine(line).line
        self.assertEqual(kept, line)
        before = deepcopy(line)
        for row in line:
            row[1][1].append(0)
            row[2][row[0]].append(0)
            row[3].append(0)
            row[5]["new"] = 0
        self.assertEqual(kept, before)
        self.assertEqual([type(thing) for thing in kept[7]], [int, tuple, dict, list, tuple, dict])
        self.assertEqual(list(NoLine({"b": 1, "a": [2], "c": (3,)}).line), ["b", "a", "c"])

    def test_two_lists_of_a_line_are_two(self):
        inner = [1]
        kept = NoLine([inner, inner, (inner,)]).line
        kept[0].append(2)
        self.assertEqual(kept, [[1, 2], [1], ([1],)])
        self.assertEqual(inner, [1])

    def test_what_is_handed_in_stays(self):
        numbers = [(1, 2)]
        names = ["a"]
        line = {"a": ["b"]}
        Flat(numbers).numbers.append((0, 1))
        Ring(names).names.append("b")
        NoLine(line).line["a"].append("c")
        self.assertEqual((numbers, names, line), ([(1, 2)], ["a"], {"a": ["b"]}))


if __name__ == "__main__":
    unittest.main()
