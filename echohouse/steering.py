"""Which states a system can be steered to from rest, and what shows it."""

from echohouse.errors import NoFit
from echohouse.fracs import NOUGHT
from echohouse.solving import first_rows, solved
from echohouse.systems import run
from echohouse.tables import is_nought, is_row, is_table, noughts, product, weighed, widened


class Finding:
    """What all answers about states have in common; it is not made by itself."""

    def found(self):
        return False

    def shows(self, system, aim):
        refuse_aim(system, aim)
        return self.holds(system, aim)

    def holds(self, system, aim):
        return False


class Inputs(Finding):
    """Inputs that lead from rest to the aim."""

    def __init__(self, sent):
        self.sent = sent

    def found(self):
        return True

    def holds(self, system, aim):
        if not is_table(self.sent, system.cells(), system.ins()):
            return False
        outputs, end = run(system, rest(system), self.sent)
        return end == aim


class Unmoved(Finding):
    """Weights that no input moves and that weigh the aim not nought."""

    def __init__(self, weights):
        self.weights = weights

    def holds(self, system, aim):
        cells = system.cells()
        if not is_row(self.weights, cells):
            return False
        moved = product([self.weights], reach_table(system), cells * system.ins())[0]
        return is_nought(moved) and weighed(self.weights, aim) != NOUGHT


def refuse_aim(system, aim):
    if not is_row(aim, system.cells()):
        raise NoFit("there is not a fraction for each cell")


def rest(system):
    return noughts(1, system.cells())[0]


def reach_table(system):
    move, push, look, through = system.tables()
    table = noughts(len(move), 0)
    for turn in range(len(move)):
        table = widened(table, push)
        push = product(move, push, system.ins())
    return table


def reach_count(system):
    return len(first_rows(reach_table(system)))


def steered(system, aim):
    refuse_aim(system, aim)
    cells, ins = system.cells(), system.ins()
    answer = solved(reach_table(system), cells * ins, aim)
    if not answer.found():
        return Unmoved(answer.weights)
    # The first numbers of a reach table's row are moved by no further turn: they come in at the last one.
    return Inputs([answer.numbers[turn * ins:(turn + 1) * ins] for turn in reversed(range(cells))])
