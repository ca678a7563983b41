"""The small form of a system, and what shows that no alike system has fewer cells."""

from echohouse.errors import NoTurns
from echohouse.fracs import is_whole_below
from echohouse.solving import first_rows, solved
from echohouse.steering import reach_table
from echohouse.systems import System, answers
from echohouse.tables import product, turned, unit
from echohouse.telling import tell_rows, tell_table

MOST_MANY = 8


def hankel(system, many):
    if not is_whole_below(many, MOST_MANY + 1):
        raise NoTurns("how many is no whole number from 0 to 8")
    told = answers(system, 2 * many)
    return [
        [number for later in range(many) for number in told[turn + later + 1][out]]
        for turn in range(many) for out in range(system.outs())
    ]


def first_cells(system):
    return [divmod(place, system.outs()) for place in first_rows(seen(system, tell_table(system)))]


def small(system):
    move, push, look, through = system.tables()
    outs = system.outs()
    tell = tell_rows(system, system.cells() + 1)
    rows = seen(system, tell)
    firsts = first_rows(rows)
    return System(
        [by_firsts(rows, firsts, place + outs) for place in firsts],
        product([tell[place] for place in firsts], push, system.ins()),
        [by_firsts(rows, firsts, place) for place in range(outs)],
        through)


def carried(system):
    tell = tell_table(system)
    return [tell[place] for place in first_rows(seen(system, tell))]


def corner(system):
    cells, ins = system.cells(), system.ins()
    table = product(carried(system), reach_table(system), cells * ins)
    columns = first_rows(turned(table, cells * ins))
    return first_cells(system), [divmod(place, ins) for place in columns]


def seen(system, tell):
    """Rows that are sums of one another by the very numbers by which those of the answers' table are."""
    # The columns of the answers' table are what the rows told here weigh the states that single 1s lead to. Fewer
    # states do as well, of which all those are sums; and where these are all states, the rows told do themselves.
    cells = system.cells()
    reached = turned(reach_table(system), cells * system.ins())
    firsts = first_rows(reached)
    if len(firsts) == cells:
        return tell
    return product(tell, turned([reached[place] for place in firsts], cells), len(firsts))


def by_firsts(rows, firsts, place):
    """The numbers by which the row of this place is a sum of the first rows."""
    if place in firsts:
        return unit(len(firsts))[firsts.index(place)]
    aim = rows[place]
    return solved(turned([rows[first] for first in firsts], len(aim)), len(firsts), aim).numbers
