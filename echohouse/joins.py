"""Systems put together, fed back into themselves, and undone.

What would have too many cells is refused where the system is made of its tables.
"""

from echohouse.errors import NoFit, NoTable
from echohouse.fracs import LESS
from echohouse.solving import inverse
from echohouse.systems import System
from echohouse.tables import is_table, noughts, product, table_less, table_scaled, table_sum, unit, widened


def in_row(one, other):
    if one.outs() != other.ins():
        raise NoFit("the other has not as many lines in as the one has lines out")
    move, push, look, through = one.tables()
    next_move, next_push, next_look, next_through = other.tables()
    cells, ins = one.cells(), one.ins()
    return System(
        widened(move, noughts(cells, other.cells())) + widened(product(next_push, look, cells), next_move),
        push + product(next_push, through, ins),
        widened(product(next_through, look, cells), next_look),
        product(next_through, through, ins))


def beside(one, other):
    if [one.ins(), one.outs(), other.ins(), other.outs()] != [1, 1, 1, 1]:
        raise NoFit("each has not one line in and one line out")
    cells, others = one.cells(), other.cells()
    move, push, look, through = one.tables()
    other_move, other_push, other_look, other_through = other.tables()
    return System(
        apart(move, cells, other_move, others), apart(push, 1, other_push, 1),
        apart(look, cells, other_look, others), apart(through, 1, other_through, 1))


def apart(one, wide, other, other_wide):
    """The two tables, the other behind and below the one, and noughts elsewhere."""
    return widened(one, noughts(len(one), other_wide)) + widened(noughts(len(other), wide), other)


def fed_back(system, table):
    cells, ins, outs = system.cells(), system.ins(), system.outs()
    if not is_table(table, ins, outs):
        raise NoTable("the table has not a row for each line in and a number for each line out")
    move, push, look, through = system.tables()
    by_input = inverse(table_less(unit(ins), product(table, through, ins)))
    by_state = product(product(by_input, table, outs), look, cells)
    next_move, next_push = driven(move, push, by_state, by_input)
    next_look, next_through = driven(look, through, by_state, by_input)
    return System(next_move, next_push, next_look, next_through)


def remover(system):
    if system.ins() != system.outs():
        raise NoFit("there are not as many lines in as lines out")
    move, push, look, through = system.tables()
    by_input = inverse(through)
    by_state = table_scaled(LESS, product(by_input, look, system.cells()))
    next_move, next_push = driven(move, push, by_state, by_input)
    return System(next_move, next_push, by_state, by_input)


def driven(held, sent, by_state, by_input):
    """What held makes of the state and sent of what goes in, as two tables for the state and for what comes in.

    What goes in is by_state times the state and by_input times what comes in, summed.
    """
    cells, ins = len(by_state[0]), len(by_input[0])
    return table_sum(held, product(sent, by_state, cells)), product(sent, by_input, ins)
