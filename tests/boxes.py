"""Systems that several tests ask about: some reckoned by hand, and all sizes with cells that are of no use."""

from echohouse.joins import beside, in_row
from echohouse.systems import System
from echohouse.tables import noughts
from helpers import mixed, more_cells, other_cells, sizes, system_of, table_of

EMPTY = System([], [], [[]], table_of((1,)))
# Half of what came out comes out once more.
ECHO = System(table_of(("1/2",)), table_of((1,)), table_of(("1/2",)), table_of((1,)))
# What comes in comes out two turns later.
DELAY = System(table_of((0, 0), (1, 0)), table_of((1,), (0,)), table_of((0, 1)), table_of((0,)))
# Each number is the sum of the two ahead of it.
GROWING = System(table_of((1, 1), (1, 0)), table_of((1,), (0,)), table_of((1, 0)), table_of((0,)))


def of_no_use():
    """Systems with cells that nothing pushes, or that nobody looks at, or both."""
    found = []
    for cells, unseen, unmoved in ((0, 1, 0), (0, 0, 1), (0, 1, 1), (1, 1, 0), (1, 0, 1), (2, 1, 1), (3, 2, 2), (4, 2, 2)):
        for ins, outs in ((1, 1), (1, 2), (2, 1), (2, 2)):
            found.append(other_cells(more_cells(system_of(cells, ins, outs, cells + 2), unseen, unmoved, 5)))
    return found


def same_looks():
    """Systems whose lines out look at the same, or of which one sees more than the other."""
    one, other = system_of(2, 1, 1, 4), system_of(3, 1, 1, 6)
    move, push, look, through = other.tables()
    twice = System(move, push, look + [[(2 * top, bottom) if bottom % 2 else (top, bottom // 2) for top, bottom in look[0]]],
                   through + through)
    blind = System(move, push, noughts(1, 3) + look, through + through)
    return [beside(one, other), beside(other, one), twice, blind, beside(one, one), in_row(one, other), in_row(one, one),
            beside(EMPTY, other), beside(other, EMPTY), in_row(twice, beside(DELAY, ECHO))]


def all_boxes():
    found = [EMPTY, ECHO, DELAY, GROWING] + [system_of(*size, 3) for size in sizes()]
    found += of_no_use() + same_looks()
    found += [System(noughts(3, 3), mixed(3, 2, 1), mixed(2, 3, 2), mixed(2, 2, 3))]
    found += [System(mixed(2, 2, 1), noughts(2, 1), mixed(1, 2, 2), mixed(1, 1, 3))]
    found += [System(mixed(2, 2, 1), mixed(2, 1, 4), noughts(1, 2), mixed(1, 1, 3))]
    return found
