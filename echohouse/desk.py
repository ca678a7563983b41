"""A desk that is told lines and answers with texts."""

from echohouse.alike import alike
from echohouse.echo import Dies, Lives, echo
from echohouse.errors import EchoError, NoLine, NoTurns
from echohouse.joins import beside, fed_back, in_row, remover
from echohouse.keeping import keeper
from echohouse.lines import (
    is_followed, read_behind, show_numbers, show_row, show_size, show_table, show_tables,
)
from echohouse.rules import rule
from echohouse.small import small
from echohouse.steering import refuse_aim, rest, steered
from echohouse.systems import answers, run
from echohouse.telling import told_by

MOST_AT_ONCE = 20
WITHOUT_BOX = ("box", "other")
WITH_OTHER = ("alike", "join row", "join beside")


class Desk:
    """A box and its state at hand, and another box beside."""

    def __init__(self):
        self.box = None
        self.other = None
        self.state = None

    def say(self, line):
        word, behind = cut(line)
        if self.lacks(word):
            raise NoLine(line)
        if behind is None:
            asked = ALONE[word]
            return asked(self)
        given = read_behind(word, behind)
        if given is None:
            raise NoLine(line)
        deed = FOLLOWED[word]
        return deed(self, given)

    def lacks(self, word):
        """Whether a box is not there that this word is about."""
        if self.box is None and word not in WITHOUT_BOX:
            return True
        return self.other is None and word in WITH_OTHER

    def put(self, system):
        """The system at hand, at rest."""
        self.box = system
        self.state = rest(system)
        return show_size(system)


def cut(line):
    """The word of a line and what stands behind it, or None where the word stands alone."""
    if not isinstance(line, str):
        raise NoLine(line)
    if line in ALONE:
        return line, None
    word, blank, behind = line.partition(" ")
    if blank and is_followed(word):
        return word, behind
    raise NoLine(line)


def take_box(desk, system):
    return desk.put(system)


def take_other(desk, system):
    desk.other = system
    return show_size(system)


def take_state(desk, state):
    refuse_aim(desk.box, state)
    desk.state = state
    return show_row(state)


def take_run(desk, inputs):
    if len(inputs) > MOST_AT_ONCE:
        raise NoTurns("a desk runs over at most twenty inputs at once")
    outputs, end = run(desk.box, desk.state, inputs)
    desk.state = end
    return show_table(outputs)


def tell_move(desk):
    return show_table(desk.box.tables()[0])


def tell_push(desk):
    return show_table(desk.box.tables()[1])


def tell_look(desk):
    return show_table(desk.box.tables()[2])


def tell_through(desk):
    return show_table(desk.box.tables()[3])


def tell_answers(desk, numbers):
    many = numbers[0]
    if not 1 <= many <= MOST_AT_ONCE:
        raise NoTurns("a desk tells from one to twenty answers at once")
    return show_tables(answers(desk.box, many))


def tell_rule(desk, numbers):
    out, line = numbers
    return " | ".join([show_row(row) for row in rule(desk.box, out, line)])


def tell_small(desk):
    return show_tables(small(desk.box).tables())


def tell_alike(desk):
    told = alike(desk.box, desk.other)
    return "alike" if told.found() else "unlike " + show_numbers([told.when, told.out, told.line])


def join_row(desk):
    return desk.put(in_row(desk.box, desk.other))


def join_beside(desk):
    return desk.put(beside(desk.box, desk.other))


def feed_back(desk, table):
    return desk.put(fed_back(desk.box, table))


def undo(desk):
    return desk.put(remover(desk.box))


def tell_steered(desk, aim):
    told = steered(desk.box, aim)
    return "inputs " + show_table(told.sent) if told.found() else "unmoved " + show_row(told.weights)


def tell_told(desk, weights):
    told = told_by(desk.box, weights)
    return "sums " + show_table(told.sums) if told.found() else "unseen " + show_row(told.state)


def tell_keeper(desk):
    told = keeper(desk.box)
    return "keeper " + show_table(told.back) if told.keeps() else "norest " + show_row(told.state)


def tell_echo(desk):
    told = echo(desk.box)
    if isinstance(told, Dies):
        return "dies"
    return "lives " + show_row(told.state) if isinstance(told, Lives) else "steady"


ALONE = {
    "move": tell_move, "push": tell_push, "look": tell_look, "through": tell_through, "small": tell_small,
    "alike": tell_alike, "join row": join_row, "join beside": join_beside, "undo": undo, "keep": tell_keeper,
    "echo": tell_echo,
}

FOLLOWED = {
    "box": take_box, "other": take_other, "state": take_state, "run": take_run, "answers": tell_answers,
    "rule": tell_rule, "back": feed_back, "steer": tell_steered, "tell": tell_told,
}


def answers_to(text):
    desk = Desk()
    return [answered(desk, line) for line in text.split("\n")] if text else []


def answered(desk, line):
    try:
        return (True, desk.say(line))
    except EchoError as refusal:
        return (False, refusal.word())
