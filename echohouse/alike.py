"""Whether two systems bring out the same for ever, and what shows it."""

from echohouse.errors import NoFit
from echohouse.fracs import is_whole_below
from echohouse.small import carried, small
from echohouse.steering import reach_table
from echohouse.systems import System, answers
from echohouse.tables import is_table, product


class Likeness:
    """What both answers about two systems have in common; it is not made by itself."""

    def found(self):
        return False

    def shows(self, one, other):
        refuse_lines(one, other)
        return self.holds(one, other)

    def holds(self, one, other):
        return False


class Alike(Likeness):
    """A form that both systems have, and the tables that carry the one and the other to it."""

    def __init__(self, form, here, there):
        self.form = form
        self.here = here
        self.there = there

    def found(self):
        return True

    def holds(self, one, other):
        if not isinstance(self.form, System):
            return False
        return carries(one, self.here, self.form) and carries(other, self.there, self.form)


class Unlike(Likeness):
    """A turn, a line out and a line in at which the answers of both systems are unlike."""

    def __init__(self, when, out, line):
        self.when = when
        self.out = out
        self.line = line

    def holds(self, one, other):
        if not is_whole_below(self.when, one.cells() + other.cells() + 1):
            return False
        if not is_whole_below(self.out, one.outs()) or not is_whole_below(self.line, one.ins()):
            return False
        return self.number_of(one) != self.number_of(other)

    def number_of(self, system):
        return answers(system, self.when + 1)[self.when][self.out][self.line]


def refuse_lines(one, other):
    if one.ins() != other.ins() or one.outs() != other.outs():
        raise NoFit("the two have not as many lines in and out")


def carries(system, table, form):
    """Whether the table carries all that the system can be steered to, turn by turn, to what the form does."""
    cells = system.cells()
    if form.told()[3] != system.told()[3] or not is_table(table, form.cells(), cells):
        return False
    move, push, look, through = system.tables()
    form_move, form_push, form_look, form_through = form.tables()
    reached = reach_table(system)
    wide = cells * system.ins()
    made = product(table, reached, wide)
    return (
        product(table, push, system.ins()) == form_push
        and product(table, product(move, reached, wide), wide) == product(form_move, made, wide)
        and product(look, reached, wide) == product(form_look, made, wide)
    )


def alike(one, other):
    refuse_lines(one, other)
    many = one.cells() + other.cells() + 1
    for when, (here, there) in enumerate(zip(answers(one, many), answers(other, many))):
        if here != there:
            return first_unlike(when, here, there)
    return Alike(small(one), carried(one), carried(other))


def first_unlike(when, here, there):
    """The first place of this turn at which its two answers, which are not the same, are unlike."""
    out = first_place(here, there)
    return Unlike(when, out, first_place(here[out], there[out]))


def first_place(here, there):
    return [left == right for left, right in zip(here, there)].index(False)
