"""Systems: boxes as four tables, their runs and their answers."""

from echohouse.errors import NoTable, TooMany
from echohouse.tables import applied, is_table, product, widened
from echohouse.turns import refuse_many, refuse_run

MOST_CELLS = 8
MOST_LINES = 2


class System:
    """A box of cells and lines, told by its move, push, look and through; never changed."""

    def __init__(self, move, push, look, through):
        if not is_system(move, push, look, through):
            raise NoTable("these are not the four tables of a system")
        if len(move) > MOST_CELLS:
            raise TooMany("a system has at most 8 cells")
        self.four = tuple([tuple([tuple(row) for row in table]) for table in (move, push, look, through)])

    def cells(self):
        return len(self.four[0])

    def ins(self):
        return len(self.four[3][0])

    def outs(self):
        return len(self.four[3])

    def tables(self):
        return tuple([[list(row) for row in table] for table in self.four])

    def told(self):
        return self.four


def is_system(move, push, look, through):
    if not isinstance(move, list) or not isinstance(through, list) or not 1 <= len(through) <= MOST_LINES:
        return False
    if not isinstance(through[0], list) or not 1 <= len(through[0]) <= MOST_LINES:
        return False
    cells, ins, outs = len(move), len(through[0]), len(through)
    return (
        is_table(move, cells, cells) and is_table(push, cells, ins)
        and is_table(look, outs, cells) and is_table(through, outs, ins)
    )


def run(system, start, inputs):
    refuse_run(system.cells(), system.ins(), start, inputs)
    move, push, look, through = system.tables()
    onward, outward = widened(move, push), widened(look, through)
    state = list(start)
    outputs = []
    for given in inputs:
        outputs.append(applied(outward, state + given))
        state = applied(onward, state + given)
    return outputs, state


def answers(system, many):
    refuse_many(many)
    move, push, look, through = system.tables()
    ins = system.ins()
    told = [through]
    while len(told) < many:
        told.append(product(look, push, ins))
        push = product(move, push, ins)
    return told[:many]
