"""Which weights of a system's states can be told from what comes out, and what shows it."""

from echohouse.fracs import NOUGHT
from echohouse.solving import first_rows, solved
from echohouse.steering import Finding, refuse_aim
from echohouse.tables import applied, is_nought, is_row, is_table, product, turned, weighed


class Sums(Finding):
    """Sums of the next outputs that tell what the weights weigh a state."""

    def __init__(self, sums):
        self.sums = sums

    def found(self):
        return True

    def holds(self, system, aim):
        cells = system.cells()
        if not is_table(self.sums, cells, system.outs()):
            return False
        joint = [number for row in self.sums for number in row]
        return product([joint], tell_table(system), cells)[0] == aim


class Unseen(Finding):
    """A state that brings out noughts for ever and that the weights weigh not nought."""

    def __init__(self, state):
        self.state = state

    def holds(self, system, aim):
        # What brings out noughts for as many turns as there are cells does so for ever.
        return (
            is_row(self.state, system.cells()) and is_nought(applied(tell_table(system), self.state))
            and weighed(aim, self.state) != NOUGHT
        )


def tell_table(system):
    return tell_rows(system, system.cells())


def tell_rows(system, many):
    """What the lines out look at, for each of so many turns from the first one on."""
    move, push, look, through = system.tables()
    rows = []
    for turn in range(many):
        rows.extend(look)
        look = product(look, move, len(move))
    return rows


def tell_count(system):
    return len(first_rows(tell_table(system)))


def told_by(system, weights):
    refuse_aim(system, weights)
    cells, outs = system.cells(), system.outs()
    answer = solved(turned(tell_table(system), cells), cells * outs, weights)
    if not answer.found():
        return Unseen(answer.weights)
    return Sums([answer.numbers[turn * outs:(turn + 1) * outs] for turn in range(cells)])
