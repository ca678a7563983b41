"""Points 100 to 105, and what point 6 says of them: a desk of lines, what it answers and refuses, and texts of lines."""

import unittest

from echohouse.carrying import from_wiring
from echohouse.desk import Desk, answers_to
from echohouse.echo import Dies, Lives, Steady, echo
from echohouse.errors import (
    EchoError, Flat, NoFit, NoFraction, NoLine, NoPart, NoTable, NoText, NoTurns, Ring, TooMany, Twice,
)
from echohouse.fracs import read_frac, show_frac
from echohouse.joins import beside, fed_back, in_row, remover
from echohouse.keeping import Keeper, NoRest, keeper
from echohouse.rules import rule
from echohouse.small import small
from echohouse.steering import Inputs, Unmoved
from echohouse.systems import answers, run
from echohouse.tables import noughts, unit
from echohouse.telling import Sums, Unseen
from echohouse.wiring import Wiring
from helpers import mixed, row_of

# From none to four cells, one and two lines in and out.
PLAIN = "in a; out a"
HALF = "in a; cell c s; gain g 1/2 c; sum s a g; out s"
PASS = "in a; in b; sum s a -b; out s; out b"
CROSS = "in a; in b; cell c b; cell d s; sum s a c; out d; out s"
TWO_IN = "in a; in b; cell c a; cell d b; gain g -2/3 d; sum s c g; out s"
TWO_OUT = "in a; cell c a; cell d c; cell e d; out e; out c"
FOUR = "in a; cell b a; cell c b; cell d c; cell e s; sum s e d; out s"
DEAF = "in a; cell c c; sum s a c; out s"
BLIND = "in a; cell c s; sum s a c; out a"
LOUD = "in a; cell c g; gain g 2 s; sum s a c; out s"
DELAY = "in a; cell c a; out c"
BOXES = (PLAIN, HALF, PASS, CROSS, TWO_IN, TWO_OUT, FOUR, DEAF, BLIND, LOUD, DELAY)

STANDING_ALONE = ("move", "push", "look", "through", "small", "alike", "join row", "join beside", "undo", "keep", "echo")
FOLLOWED = ("box", "other", "state", "run", "answers", "rule", "back", "steer", "tell")


def system_from(wiring):
    return from_wiring(Wiring(wiring.replace("; ", "\n")))


def desk_with(*lines):
    desk = Desk()
    for line in lines:
        desk.say(line)
    return desk


def shown_row(row):
    return " ".join(show_frac(number) for number in row) or "none"


def shown(table):
    return "; ".join(shown_row(row) for row in table) or "none"


def row_in(text):
    return [] if text == "none" else [read_frac(word) for word in text.split(" ")]


def table_in(text, many):
    """The shown table; none is a table without rows where there are none."""
    return [row_in(row) for row in text.split("; ")] if many else []


def size(system):
    return f"{system.cells()} {system.ins()} {system.outs()}"


def state_at_hand(desk, system, wanted):
    """Whether a run of the desk is a run from the wanted state."""
    inputs = mixed(6, system.ins(), 8)
    return desk.say("run " + shown(inputs)) == shown(run(system, wanted, inputs)[0])


def all_told(desk):
    """What a desk tells of its box, its other box and its state; it is of no use behind."""
    told = [desk.say(line) for line in ("move", "push", "look", "through")]
    try:
        told.append(desk.say("alike"))
    except EchoError as refusal:
        told.append(refusal.word())
    ins = len(told[3].split("; ")[0].split(" "))
    told.append(desk.say("run " + shown(mixed(6, ins, 8))))
    for line in ("join row", "join beside"):
        try:
            told += [desk.say(line), desk.say("move")]
        except EchoError as refusal:
            told.append(refusal.word())
    return told


class Boxes(unittest.TestCase):
    def test_cells_lines_in_and_lines_out(self):
        wanted = ("0 1 1", "1 1 1", "0 2 2", "2 2 2", "2 2 1", "3 1 2", "4 1 1", "1 1 1", "1 1 1", "1 1 1", "1 1 1")
        for wiring, answer in zip(BOXES, wanted):
            self.assertEqual(Desk().say("box " + wiring), answer)
            self.assertEqual(Desk().say("other " + wiring), answer)

    def test_the_tables(self):
        for wiring in BOXES:
            system = system_from(wiring)
            desk = desk_with("box " + wiring)
            for word, table in zip(("move", "push", "look", "through"), system.tables()):
                self.assertEqual(desk.say(word), shown(table))

    def test_by_hand(self):
        desk = desk_with("box " + CROSS)
        self.assertEqual([desk.say(word) for word in ("move", "push", "look", "through")],
                         ["0 0; 1 0", "0 1; 1 0", "0 1; 1 0", "0 0; 1 0"])
        desk = desk_with("box " + TWO_IN)
        self.assertEqual([desk.say(word) for word in ("move", "push", "look", "through")],
                         ["0 0; 0 0", "1 0; 0 1", "1 -2/3", "0 0"])
        desk = desk_with("box " + PASS)
        self.assertEqual([desk.say(word) for word in ("move", "push", "look", "through")],
                         ["none", "none", "none; none", "1 -1; 0 1"])
        desk = desk_with("box " + PLAIN)
        self.assertEqual([desk.say(word) for word in ("move", "push", "look", "through")], ["none", "none", "none", "1"])

    def test_a_new_box_is_at_rest(self):
        desk = desk_with("box " + HALF, "state 5", "box " + HALF)
        self.assertEqual(desk.say("run 0; 0"), "0; 0")

    def test_the_other_box_stays(self):
        desk = desk_with("other " + HALF)
        desk.say("box " + PLAIN)
        self.assertEqual(desk.say("alike"), "unlike 1 0 0")
        desk.say("box " + HALF)
        self.assertEqual(desk.say("alike"), "alike")
        desk.say("other " + PLAIN)
        self.assertEqual(desk.say("alike"), "unlike 1 0 0")
        self.assertEqual(desk.say("move"), "1/2")

    def test_wirings_that_are_refused(self):
        for wiring, kind, field, value in (
            ("", NoText, "place", 0), ("in a;out a", NoText, "place", 0), ("in a;  out a", NoText, "place", 1),
            ("in a; out a; ", NoText, "place", 2), (" in a; out a", NoText, "place", 0), ("in a ; out a", NoText, "place", 0),
            ("in a; out a;", NoText, "place", 1), ("none", NoText, "place", 0), ("in a; gain g 2/4 a; out g", NoText, "place", 1),
            ("in a\nout a", NoText, "place", 0), ("in a\n; out a", NoText, "place", 0), ("in a; out a\n", NoText, "place", 1),
            ("in a\n out a", NoText, "place", 0), ("in a; cell c a; out c\n; out a", NoText, "place", 2),
            ("in a; in a; out a", Twice, "name", "a"), ("in a; out b", NoPart, "name", "b"),
            ("in a; sum s a t; sum t s; out t", Ring, "names", ["s", "t"]), ("in a; gain g 1 g; out a", Ring, "names", ["g"]),
        ):
            for word in ("box ", "other "):
                with self.assertRaises(kind) as caught:
                    Desk().say(word + wiring)
                self.assertEqual(getattr(caught.exception, field), value)
        for wiring, kind in (
            ("in a; in b; in c; out a", TooMany), ("in a; out a; out a; out a", TooMany), ("in a", NoFit),
            ("in a; cell b a; cell c a; cell d a; cell e a; cell f a; out a", TooMany),
        ):
            for word in ("box ", "other "):
                with self.assertRaises(kind):
                    Desk().say(word + wiring)


class States(unittest.TestCase):
    def test_a_state_is_at_hand_and_shown(self):
        for wiring in BOXES:
            system = system_from(wiring)
            desk = desk_with("box " + wiring)
            for state in mixed(2, system.cells(), 3):
                self.assertEqual(desk.say("state " + shown_row(state)), shown_row(state))
                self.assertTrue(state_at_hand(desk, system, state))

    def test_without_cells(self):
        self.assertEqual(desk_with("box " + PLAIN).say("state none"), "none")

    def test_no_fit(self):
        for wiring, rows in ((PLAIN, ("0", "1 2")), (HALF, ("none", "1 2", "0 0")), (CROSS, ("none", "1", "1 2 3"))):
            desk = desk_with("box " + wiring)
            for row in rows:
                with self.assertRaises(NoFit):
                    desk.say("state " + row)

    def test_no_fraction(self):
        desk = desk_with("box " + CROSS)
        for row in ("", " ", "1  2", " 1 2", "1 2 ", "1 2/4", "1 none", "none none", "None", "1, 2", "1; 2", "x", "+1 2",
                    "1 -0", "01 2", "1 2\n", "1/1 2", "1 " + "9" * 31, "1 1/0", "none ", " none"):
            for word in ("state ", "steer ", "tell "):
                with self.assertRaises(NoFraction):
                    desk.say(word + row)


class Runs(unittest.TestCase):
    def test_outputs(self):
        for wiring in BOXES:
            system = system_from(wiring)
            for many in (1, 2, 19, 20):
                inputs = mixed(many, system.ins(), many)
                desk = desk_with("box " + wiring)
                outputs = run(system, noughts(1, system.cells())[0], inputs)[0]
                self.assertEqual(desk.say("run " + shown(inputs)), shown(outputs))

    def test_by_hand(self):
        desk = desk_with("box " + HALF)
        self.assertEqual(desk.say("run 1; 0; 0; 1/2"), "1; 1/2; 1/4; 5/8")
        self.assertEqual(desk.say("run 0"), "5/16")
        self.assertEqual(desk_with("box " + PASS).say("run 3 1; 0 -1/2"), "2 1; 1/2 -1/2")

    def test_it_goes_on_from_the_state_at_hand(self):
        for wiring in BOXES:
            system = system_from(wiring)
            inputs = mixed(30, system.ins(), 4)
            start = mixed(1, system.cells(), 5)[0]
            desk = desk_with("box " + wiring, "state " + shown_row(start))
            told = [desk.say("run " + shown(inputs[at:at + 10])) for at in (0, 10, 20)]
            self.assertEqual("; ".join(told), shown(run(system, start, inputs)[0]))

    def test_more_than_twenty(self):
        desk = desk_with("box " + HALF)
        for inputs in (["0"] * 21, ["0"] * 61, ["1 2"] * 21, ["none"] * 40):
            with self.assertRaises(NoTurns):
                desk.say("run " + "; ".join(inputs))
        with self.assertRaises(NoFraction):
            desk.say("run " + "; ".join(["0"] * 20 + ["x"]))

    def test_no_fit(self):
        for wiring, tables in ((HALF, ("none", "1 2", "1; 2 3", "1; none", "none; 1")), (PASS, ("1", "1 2; 3", "none", "1 2 3"))):
            desk = desk_with("box " + wiring)
            for table in tables:
                with self.assertRaises(NoFit):
                    desk.say("run " + table)

    def test_no_fraction(self):
        desk = desk_with("box " + HALF)
        for table in ("", " ", "1;2", "1 ; 2", "1;  2", "1; ", "; 1", "1;", ";", "; ", "1; 2\n", "1\n2", "2/2", "1; none none"):
            for word in ("run ", "back "):
                with self.assertRaises(NoFraction):
                    desk.say(word + table)


class Answers(unittest.TestCase):
    def test_as_tables_with_strokes_between(self):
        for wiring in BOXES:
            system = system_from(wiring)
            desk = desk_with("box " + wiring, *(["state " + shown_row([(3, 1)] * system.cells())] if system.cells() else []))
            for many in (1, 2, 9, 10, 20):
                self.assertEqual(desk.say(f"answers {many}"), " | ".join(shown(table) for table in answers(system, many)))

    def test_by_hand(self):
        self.assertEqual(desk_with("box " + HALF).say("answers 3"), "1 | 1/2 | 1/4")
        self.assertEqual(desk_with("box " + CROSS).say("answers 2"), "0 0; 1 0 | 1 0; 0 1")

    def test_no_turns(self):
        desk = desk_with("box " + HALF)
        for many in ("0", "21", "22", "60", "99"):
            with self.assertRaises(NoTurns):
                desk.say("answers " + many)

    def test_no_line(self):
        desk = desk_with("box " + HALF)
        for many in ("", " ", "00", "01", "1 ", " 1", "100", "-1", "+1", "1/2", "x", "1 2", "none", "1.", "1\n", "020"):
            no_line(self, desk, "answers " + many)


class Rules(unittest.TestCase):
    def test_both_rows(self):
        for wiring in BOXES:
            system = system_from(wiring)
            desk = desk_with("box " + wiring)
            for out in range(system.outs()):
                for line in range(system.ins()):
                    a, b = rule(system, out, line)
                    self.assertEqual(desk.say(f"rule {out} {line}"), shown_row(a) + " | " + shown_row(b))

    def test_by_hand(self):
        self.assertEqual(desk_with("box " + HALF).say("rule 0 0"), "1/2 | 1 0")
        self.assertEqual(desk_with("box " + PASS).say("rule 0 1"), "none | -1")

    def test_no_fit(self):
        desk = desk_with("box " + TWO_IN)
        self.assertEqual(desk.say("rule 0 1"), "0 | 0 -2/3")
        for numbers in ("1 0", "0 2", "99 99", "2 1", "10 0"):
            with self.assertRaises(NoFit):
                desk.say("rule " + numbers)

    def test_no_line(self):
        desk = desk_with("box " + HALF)
        for numbers in ("", " ", "0", "0 ", " 0", "0  0", "0 0 0", "0 0 ", " 0 0", "00 0", "0 00", "0 01", "100 0", "-1 0", "a b", "0 0\n"):
            no_line(self, desk, "rule " + numbers)


class SmallAndAlike(unittest.TestCase):
    def test_small(self):
        for wiring in BOXES:
            system = system_from(wiring)
            wanted = " | ".join(shown(table) for table in small(system).tables())
            self.assertEqual(desk_with("box " + wiring).say("small"), wanted)
        self.assertEqual(desk_with("box " + HALF).say("small"), "1/2 | 1/2 | 1 | 1")
        self.assertEqual(desk_with("box " + DEAF).say("small"), "none | none | none | 1")
        self.assertEqual(desk_with("box " + PASS).say("small"), "none | none | none; none | 1 -1; 0 1")

    def test_alike(self):
        other_half = "in x; sum y x z; gain z 1/2 w; cell w y; cell v v; out y"
        desk = desk_with("box " + HALF, "other " + other_half)
        self.assertEqual(desk.say("alike"), "alike")
        self.assertEqual(desk_with("box " + DEAF, "other " + PLAIN).say("alike"), "alike")
        self.assertEqual(desk_with("box " + HALF, "other " + PLAIN).say("alike"), "unlike 1 0 0")
        self.assertEqual(desk_with("box " + CROSS, "other " + PASS).say("alike"), "unlike 0 0 0")
        swapped = "in a; in b; cell c a; cell d b; out c; out d"
        doubled = "in a; in b; cell c a; cell d b; gain g 2 d; out c; out g"
        self.assertEqual(desk_with("box " + swapped, "other " + doubled).say("alike"), "unlike 1 1 1")

    def test_no_fit(self):
        for one, other in ((HALF, PASS), (HALF, TWO_IN), (TWO_OUT, HALF), (TWO_IN, TWO_OUT)):
            with self.assertRaises(NoFit):
                desk_with("box " + one, "other " + other).say("alike")


class Joins(unittest.TestCase):
    def holds(self, desk, line, system):
        """The answer, and that the system is at hand, at rest."""
        self.assertEqual(desk.say(line), size(system))
        for word, table in zip(("move", "push", "look", "through"), system.tables()):
            self.assertEqual(desk.say(word), shown(table))
        self.assertTrue(state_at_hand(desk, system, noughts(1, system.cells())[0]))

    def moved(self, wiring):
        """A desk with this box at hand, not at rest."""
        cells = system_from(wiring).cells()
        return desk_with("box " + wiring, "state " + shown_row([(2, 3)] * cells))

    def test_in_a_row(self):
        for one in BOXES:
            for other in BOXES:
                here, there = system_from(one), system_from(other)
                desk = self.moved(one)
                desk.say("other " + other)
                if here.outs() == there.ins():
                    self.holds(desk, "join row", in_row(here, there))
                else:
                    with self.assertRaises(NoFit):
                        desk.say("join row")

    def test_beside(self):
        for one in BOXES:
            for other in BOXES:
                here, there = system_from(one), system_from(other)
                desk = self.moved(one)
                desk.say("other " + other)
                if [here.ins(), here.outs(), there.ins(), there.outs()] == [1, 1, 1, 1]:
                    self.holds(desk, "join beside", beside(here, there))
                else:
                    with self.assertRaises(NoFit):
                        desk.say("join beside")

    def test_the_one_ahead_is_the_box_at_hand(self):
        desk = desk_with("box " + TWO_IN, "other " + TWO_OUT)
        self.assertEqual(desk.say("join row"), "5 2 2")
        desk = desk_with("box " + TWO_OUT, "other " + TWO_IN)
        self.assertEqual(desk.say("join row"), "5 1 1")

    def test_too_many(self):
        desk = desk_with("box " + FOUR, "other " + FOUR)
        self.assertEqual(desk.say("join row"), "8 1 1")
        with self.assertRaises(TooMany):
            desk.say("join row")
        with self.assertRaises(TooMany):
            desk.say("join beside")
        with self.assertRaises(TooMany):
            desk.say("echo")

    def test_fed_back(self):
        for wiring, table in ((HALF, "1/3"), (CROSS, "1/2 2; 0 -1"), (TWO_IN, "3; -1/4"), (TWO_OUT, "1 2"), (PASS, "2 0; 0 1/5"), (PLAIN, "-1")):
            system = system_from(wiring)
            rows = [row_of(*row.split(" ")) for row in table.split("; ")]
            self.holds(self.moved(wiring), "back " + table, fed_back(system, rows))

    def test_fed_back_refused(self):
        for wiring, tables in ((HALF, ("none", "1 2", "1; 2", "1; none")), (CROSS, ("1", "1 2", "1 2; 3", "1; 2", "1 2; 3 4; 5 6"))):
            for table in tables:
                with self.assertRaises(NoTable):
                    self.moved(wiring).say("back " + table)
        for wiring, table in ((HALF, "1"), (PLAIN, "1"), (PASS, "1 1; 0 1"), (PASS, "1 0; 0 0"), (CROSS, "0 1; 5 0")):
            rows = [row_of(*row.split(" ")) for row in table.split("; ")]
            with self.assertRaises(Flat) as wanted:
                fed_back(system_from(wiring), rows)
            with self.assertRaises(Flat) as caught:
                self.moved(wiring).say("back " + table)
            self.assertEqual(caught.exception.numbers, wanted.exception.numbers)

    def test_undone(self):
        for wiring in (PLAIN, HALF, PASS, LOUD, DEAF, BLIND):
            self.holds(self.moved(wiring), "undo", remover(system_from(wiring)))
        for wiring in (TWO_IN, TWO_OUT):
            with self.assertRaises(NoFit):
                self.moved(wiring).say("undo")
        for wiring in (FOUR, DELAY, CROSS):
            with self.assertRaises(Flat) as wanted:
                remover(system_from(wiring))
            with self.assertRaises(Flat) as caught:
                self.moved(wiring).say("undo")
            self.assertEqual(caught.exception.numbers, wanted.exception.numbers)

    def test_undone_behind_what_it_undoes(self):
        desk = desk_with("box " + HALF, "other in a; cell c a; gain g -1/2 c; sum s a g; out s")
        self.assertEqual(desk.say("undo"), "1 1 1")
        self.assertEqual(desk.say("alike"), "alike")
        desk.say("box " + HALF)
        self.assertEqual(desk.say("join row"), "2 1 1")
        self.assertEqual(desk.say("run 3; -1/2; 0; 7"), "3; -1/2; 0; 7")

    def test_the_other_box_is_as_it_was(self):
        desk = desk_with("box " + HALF, "other " + DELAY)
        self.assertEqual([desk.say("join row") for turn in range(3)], ["2 1 1", "3 1 1", "4 1 1"])
        desk.say("box " + DELAY)
        self.assertEqual(desk.say("alike"), "alike")


class Found(unittest.TestCase):
    def test_steer(self):
        seen = {}
        for wiring in BOXES:
            system = system_from(wiring)
            for aim in unit(system.cells()) + mixed(2, system.cells(), 5) + noughts(1, system.cells()):
                word, blank, told = desk_with("box " + wiring).say("steer " + shown_row(aim)).partition(" ")
                seen[word] = True
                if word == "inputs":
                    self.assertIs(Inputs(table_in(told, system.cells())).shows(system, aim), True)
                else:
                    self.assertEqual(word, "unmoved")
                    self.assertIs(Unmoved(row_in(told)).shows(system, aim), True)
        self.assertEqual(sorted(seen), ["inputs", "unmoved"])
        self.assertEqual(desk_with("box " + PLAIN).say("steer none"), "inputs none")
        self.assertEqual(desk_with("box " + HALF).say("steer 3/2"), "inputs 3/2")
        self.assertRegex(desk_with("box " + DEAF).say("steer 1"), r"\Aunmoved -?[1-9][0-9]*(/[1-9][0-9]*)?\Z")

    def test_tell(self):
        seen = {}
        for wiring in BOXES:
            system = system_from(wiring)
            for weights in unit(system.cells()) + mixed(2, system.cells(), 5) + noughts(1, system.cells()):
                word, blank, told = desk_with("box " + wiring).say("tell " + shown_row(weights)).partition(" ")
                seen[word] = True
                if word == "sums":
                    self.assertIs(Sums(table_in(told, system.cells())).shows(system, weights), True)
                else:
                    self.assertEqual(word, "unseen")
                    self.assertIs(Unseen(row_in(told)).shows(system, weights), True)
        self.assertEqual(sorted(seen), ["sums", "unseen"])
        self.assertEqual(desk_with("box " + PLAIN).say("tell none"), "sums none")
        self.assertEqual(desk_with("box " + HALF).say("tell 1"), "sums 2")

    def test_no_fit(self):
        for wiring, rows in ((PLAIN, ("0", "1 2")), (HALF, ("none", "1 2")), (FOUR, ("1 2 3", "1 2 3 4 5", "none"))):
            desk = desk_with("box " + wiring)
            for row in rows:
                for word in ("steer ", "tell "):
                    with self.assertRaises(NoFit):
                        desk.say(word + row)

    def test_keep(self):
        seen = {}
        for wiring in BOXES:
            system = system_from(wiring)
            word, blank, told = desk_with("box " + wiring).say("keep").partition(" ")
            seen[word] = True
            if word == "keeper":
                self.assertIs(Keeper(table_in(told, system.ins())).shows(system), True)
            else:
                self.assertEqual(word, "norest")
                self.assertIs(NoRest(row_in(told), keeper(system).weights).shows(system), True)
        self.assertEqual(sorted(seen), ["keeper", "norest"])
        self.assertEqual(desk_with("box " + PLAIN).say("keep"), "keeper none")
        self.assertEqual(desk_with("box " + PASS).say("keep"), "keeper none; none")
        self.assertEqual(desk_with("box " + HALF).say("keep"), "keeper -1/2")
        self.assertRegex(desk_with("box " + DEAF).say("keep"), r"\Anorest -?[1-9][0-9]*(/[1-9][0-9]*)?\Z")

    def test_echo(self):
        seen = {}
        for wiring in BOXES:
            system = system_from(wiring)
            word, blank, told = desk_with("box " + wiring).say("echo").partition(" ")
            seen[word] = True
            if word == "lives":
                self.assertIs(Lives(echo(system).weighing, row_in(told)).shows(system), True)
            else:
                self.assertEqual((blank, told), ("", ""))
                self.assertIsInstance(echo(system), {"dies": Dies, "steady": Steady}[word])
        self.assertEqual(sorted(seen), ["dies", "lives", "steady"])
        self.assertEqual(desk_with("box " + PLAIN).say("echo"), "dies")
        self.assertEqual(desk_with("box " + DEAF).say("echo"), "steady")
        self.assertRegex(desk_with("box " + LOUD).say("echo"), r"\Alives -?[1-9][0-9]*(/[1-9][0-9]*)?\Z")

    def test_echo_of_more_than_four_cells(self):
        with self.assertRaises(TooMany):
            desk_with("box " + FOUR, "other " + DELAY, "join row").say("echo")


def no_line(case, desk, line):
    with case.assertRaises(NoLine) as caught:
        desk.say(line)
    case.assertEqual(caught.exception.line, line)


class Lines(unittest.TestCase):
    def test_no_lines(self):
        wrong = ["", " ", "  ", "\n", "boxes in a; out a", "Box in a; out a", " move", "move\n", "mov", "moves", "join", "join ",
                 "join  row", "join row ", "join rowe", "joinrow", "join beside ", " join row", "join back", "row", "beside",
                 "help", "quit", "none", ";", "box\tin a; out a", "box\n", "state\n1", "MOVE", "alike unlike", "unlike", "keeper"]
        wrong += [word + " " for word in STANDING_ALONE] + [word + " 1" for word in STANDING_ALONE]
        wrong += [word + " none" for word in STANDING_ALONE] + [" " + word for word in STANDING_ALONE]
        wrong += list(FOLLOWED) + [word + "\n" for word in FOLLOWED] + [word + "s 1" for word in FOLLOWED]
        wrong += [" " + word + " 1" for word in FOLLOWED] + ["move move", "move; push", "small; small", "echo echo"]
        for line in wrong:
            no_line(self, Desk(), line)
            no_line(self, desk_with("box " + HALF, "other " + DELAY), line)

    def test_things_that_are_no_texts(self):
        for thing in (None, True, 7, [], ["move"], ("move",), {"move": 1}, b"move", 1.5):
            no_line(self, Desk(), thing)
            no_line(self, desk_with("box " + HALF), thing)

    def test_nothing_behind_the_word(self):
        desk = desk_with("box " + HALF, "other " + DELAY)
        for word, kind in (("box", NoText), ("other", NoText), ("state", NoFraction), ("run", NoFraction), ("answers", NoLine),
                           ("rule", NoLine), ("back", NoFraction), ("steer", NoFraction), ("tell", NoFraction)):
            with self.assertRaises(kind):
                desk.say(word + " ")

    def test_a_blank_too_many(self):
        desk = desk_with("box " + HALF, "other " + DELAY)
        for line, kind in (("box  in a; out a", NoText), ("other  in a; out a", NoText), ("state  1", NoFraction),
                           ("run  1", NoFraction), ("answers  1", NoLine), ("rule  0 0", NoLine), ("back  1", NoFraction),
                           ("steer  1", NoFraction), ("tell  1", NoFraction)):
            with self.assertRaises(kind):
                desk.say(line)

    def test_ahead_of_any_box(self):
        lines = list(STANDING_ALONE) + ["state 1", "state none", "state x", "state ", "run 1", "run x", "answers 1", "answers 0",
                                        "answers x", "rule 0 0", "rule x", "back 1", "back x", "steer 1", "tell 1", "tell x"]
        for line in lines:
            no_line(self, Desk(), line)
            # Another box alone is no box at hand.
            no_line(self, desk_with("other " + HALF), line)
        refused = Desk()
        for wiring in ("", "in a", "out a"):
            with self.assertRaises(EchoError):
                refused.say("box " + wiring)
        for line in lines:
            no_line(self, refused, line)

    def test_without_another_box(self):
        desk = desk_with("box " + HALF)
        for line in ("alike", "join row", "join beside"):
            no_line(self, desk, line)
        with self.assertRaises(NoText):
            desk.say("other x")
        for line in ("alike", "join row", "join beside"):
            no_line(self, desk, line)

    def test_every_line_has_a_text(self):
        desk = desk_with("box " + HALF, "other " + DELAY)
        for line in ("box " + HALF, "other " + DELAY, "state 1", "run 1; 2", "move", "push", "look", "through", "answers 2",
                     "rule 0 0", "small", "alike", "steer 1", "tell 1", "keep", "echo", "join row", "back 1/2", "join beside"):
            self.assertIsInstance(desk.say(line), str)


class NothingChanges(unittest.TestCase):
    refused = (
        "box ", "box in a", "box in a; in a; out a", "box in a; out b", "box in a; sum s s; out s", "box x", "other ", "other x",
        "other in a; in b; in c; out a", "state ", "state 1 2 3 4 5", "state x", "state none none", "run ", "run x",
        "run 1 2 3", "run 1 1; 1", "run 1; 1 1", "run none", "run " + "; ".join(["1"] * 21), "run " + "; ".join(["1 1"] * 21),
        "answers 0", "answers 21", "answers x", "answers ", "rule 9 9", "rule x", "rule 0", "back ", "back x", "back 1 2 3",
        "back none", "steer x", "steer 1 2 3 4 5", "tell x", "tell 1 2 3 4 5", "", "none", "move ", "join", "join row ",
        "echo ", "undo ", "small 1",
    )

    def test_what_is_refused(self):
        for lines in (["box " + HALF, "state 3/4"], ["box " + HALF, "other " + DELAY, "run 1; 2"],
                      ["box " + CROSS, "other " + PASS, "state 1 -2"], ["box " + TWO_OUT, "other " + HALF, "state 1 2 3"],
                      ["box " + FOUR, "other " + FOUR, "join row", "run 1; 1/2"], ["box " + PLAIN, "other " + TWO_IN]):
            many = 0
            for line in self.refused + ("back 1", "undo", "join row", "join beside", "alike", "echo", "back 0 1; 5 0"):
                desk = desk_with(*lines)
                try:
                    desk.say(line)
                except EchoError:
                    many += 1
                    self.assertEqual(all_told(desk), all_told(desk_with(*lines)), line)
            self.assertTrue(many >= len(self.refused) - 4, (lines, many))

    def test_each_refusal_of_the_fed_back_and_undone(self):
        for lines, line, kind in (
            (["box " + HALF, "state 3"], "back 1", Flat), (["box " + DELAY, "state 3"], "undo", Flat),
            (["box " + TWO_IN, "state 3 4"], "undo", NoFit), (["box " + HALF, "state 3"], "back 1 2", NoTable),
            (["box " + HALF, "other " + PASS, "state 3"], "join row", NoFit),
            (["box " + HALF, "other " + PASS, "state 3"], "join beside", NoFit),
            (["box " + FOUR, "other " + FOUR, "join row", "state 1 2 3 4 5 6 7 8"], "join row", TooMany),
            (["box " + FOUR, "other " + FOUR, "join row", "state 1 2 3 4 5 6 7 8"], "join beside", TooMany),
            (["box " + FOUR, "other " + FOUR, "join row", "state 1 2 3 4 5 6 7 8"], "echo", TooMany),
            (["box " + HALF, "other " + PASS, "state 3"], "alike", NoFit),
        ):
            desk = desk_with(*lines)
            with self.assertRaises(kind):
                desk.say(line)
            self.assertEqual(all_told(desk), all_told(desk_with(*lines)))

    def test_what_only_asks(self):
        for lines in (["box " + HALF, "other " + DELAY, "state 3/4"], ["box " + LOUD, "other " + HALF, "run 1; 2"],
                      ["box " + PLAIN, "other " + HALF], ["box " + DEAF, "other " + PLAIN, "state 5"]):
            row = "none" if lines[0] == "box " + PLAIN else "2/3"
            desk = desk_with(*lines)
            asked = ("move", "push", "look", "through", "answers 4", "rule 0 0", "small", "alike", "steer " + row, "tell " + row,
                     "keep", "echo")
            told = [desk.say(line) for line in asked]
            self.assertEqual([desk.say(line) for line in asked], told)
            self.assertEqual([desk_with(*lines).say(line) for line in asked], told)
            self.assertEqual(all_told(desk), all_told(desk_with(*lines)))

    def test_two_desks(self):
        one, other = desk_with("box " + HALF, "state 1"), desk_with("box " + DELAY, "state 2")
        self.assertEqual((one.say("run 0"), other.say("run 0")), ("1/2", "2"))


class Texts(unittest.TestCase):
    def test_the_text_without_signs(self):
        self.assertEqual(answers_to(""), [])

    def test_a_text_that_ends_with_a_line_feed(self):
        self.assertEqual(answers_to("\n"), [(False, "no line"), (False, "no line")])
        self.assertEqual(answers_to("box in a; out a\n"), [(True, "0 1 1"), (False, "no line")])

    def test_answers_and_refusals(self):
        text = "\n".join([
            "move", "box " + HALF, "state 1/2", "run 1; 0", "state x", "run 0", "alike", "other in a; cell a a; out a", "other " + DELAY,
            "alike", "answers 21", "back 1", "back 1 1", "rule 1 0", "", "box in a; out b", "box in a", "box x",
            "box in a; sum s s; out s", "join row", "join row", "join row", "echo", "join row", "other in a; in b; in c; out a", "undo",
            "small",
        ])
        self.assertEqual(answers_to(text), [
            (False, "no line"), (True, "1 1 1"), (True, "1/2"), (True, "5/4; 5/8"), (False, "no fraction"), (True, "5/16"),
            (False, "no line"), (False, "twice"), (True, "1 1 1"), (True, "unlike 0 0 0"), (False, "no turns"), (False, "flat"),
            (False, "no table"), (False, "no fit"), (False, "no line"), (False, "no part"), (False, "no fit"), (False, "no text"),
            (False, "ring"), (True, "2 1 1"), (True, "3 1 1"), (True, "4 1 1"), (True, "dies"), (True, "5 1 1"),
            (False, "too many"), (False, "flat"),
            (True, "0 1 0 0; 0 0 1 0; 0 0 0 1; 0 0 0 1/2 | 0; 0; 0; 1 | 1 0 0 0 | 0"),
        ])

    def test_kinds(self):
        for told in answers_to("box in a; out a\nmove\nx"):
            self.assertIsInstance(told, tuple)
            self.assertIsInstance(told[0], bool)
            self.assertIsInstance(told[1], str)
        self.assertIsInstance(answers_to("x"), list)

    def test_a_new_desk_each_time(self):
        self.assertEqual(answers_to("box in a; out a"), [(True, "0 1 1")])
        self.assertEqual(answers_to("through"), [(False, "no line")])

    def test_as_a_desk_line_by_line(self):
        lines = ["box " + CROSS, "state 1 2", "run 1 2; 3 4", "other " + PASS, "join row", "keep", "tell 1 2", "steer 1/2 0", "echo",
                 "small", "rule 0 1", "answers 5", "back 1 0; 0 1/3", "run 0 0", "undo", "join beside", "through"]
        desk, wanted = Desk(), []
        for line in lines:
            try:
                wanted.append((True, desk.say(line)))
            except EchoError as refusal:
                wanted.append((False, refusal.word()))
        self.assertEqual(answers_to("\n".join(lines)), wanted)

    def test_a_long_text(self):
        many = 40000 // len("run 1/3; -2\n") - 5
        text = "\n".join(["box in a; cell c a; gain g 1/2 c; out g"] + ["run 1/3; -2"] * many)
        told = answers_to(text)
        self.assertEqual(told[:3], [(True, "1 1 1"), (True, "0; 1/6"), (True, "-1; 1/6")])
        self.assertEqual(told[2:], [(True, "-1; 1/6")] * (many - 1))

    def test_long_numbers_are_shown_whole(self):
        text = "box in a; cell c g; gain g 99 s; sum s a c; out s\nrun " + "; ".join(["1"] * 20)
        last = answers_to("\n".join([text] + ["run " + "; ".join(["0"] * 20)] * 150))[-1]
        self.assertTrue(last[0])
        self.assertTrue(len(last[1]) > 20 * 5900)


if __name__ == "__main__":
    unittest.main()
