"""How a system can be brought to rest by what it holds, or what shows that it can not."""

from echohouse.errors import NoTable
from echohouse.fracs import NOUGHT
from echohouse.solving import first_rows, solved, stills
from echohouse.steering import reach_table, refuse_aim
from echohouse.tables import (
    applied, is_nought, is_nought_table, is_row, is_table, power, product, table_sum, turned, unit, weighed, widened,
)


class Keeping:
    """What is told of a system's way to rest; this plain one tells nothing."""

    def keeps(self):
        return False

    def shows(self, system):
        return False


class Keeper(Keeping):
    """A table that brings the system to rest from every state."""

    def __init__(self, back):
        self.back = back

    def keeps(self):
        return True

    def shows(self, system):
        return can_keep(system, self.back) and is_nought_table(power(kept_move(system, self.back), system.cells()))


class NoRest(Keeping):
    """A state that no inputs bring to rest, and weights that show it."""

    def __init__(self, state, weights):
        self.state = state
        self.weights = weights

    def shows(self, system):
        cells = system.cells()
        if not is_row(self.state, cells) or not is_row(self.weights, cells):
            return False
        moved = product([self.weights], reach_table(system), cells * system.ins())
        return is_nought_table(moved) and weighed(later([self.weights], system)[0], self.state) != NOUGHT


def can_keep(system, thing):
    return is_table(thing, system.ins(), system.cells())


def kept_move(system, back):
    move, push, look, through = system.tables()
    return table_sum(move, product(push, back, len(move)))


def later(rows, system):
    """The rows times the move, for as many turns as there are cells."""
    cells = system.cells()
    return product(rows, power(system.tables()[0], cells), cells)


def keeper(system):
    cells, ins = system.cells(), system.ins()
    unmoved = stills(turned(reach_table(system), cells * ins), cells)
    for weights, row in zip(unmoved, later(unmoved, system)):
        if not is_nought(row):
            place = [number == NOUGHT for number in row].index(False)
            return NoRest(unit(cells)[place], weights)
    states, inputs = ways_to_rest(system)
    return Keeper([solved(states, cells, [given[line] for given in inputs]).numbers for line in range(ins)])


def ways_to_rest(system):
    """As many states as can be, none a sum of the others, and for each an input that leads on towards rest."""
    # Those of each turn lead to sums of those ahead: so as many turns as there are cells lead all of them to rest.
    states, inputs = [], []
    for turn in range(system.cells()):
        further = ways_to(system, states)
        firsts = first_rows(states + [state for state, given in further])
        found = [further[place - len(states)] for place in firsts if place >= len(states)]
        states = states + [state for state, given in found]
        inputs = inputs + [given for state, given in found]
    return states, inputs


def ways_to(system, states):
    """States, each with an input, that lead to sums of these states; all other such ways are sums of those told."""
    move, push, look, through = system.tables()
    cells, ins = system.cells(), system.ins()
    table = widened(widened(move, push), turned(states, cells))
    return [(row[:cells], row[cells:cells + ins]) for row in stills(table, cells + ins + len(states))]


def kept_run(system, back, start):
    if not can_keep(system, back):
        raise NoTable("the table has not a row for each line in and a number for each cell")
    refuse_aim(system, start)
    move = kept_move(system, back)
    states = [list(start)]
    for turn in range(system.cells()):
        states.append(applied(move, states[-1]))
    return states
