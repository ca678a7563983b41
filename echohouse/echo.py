"""Whether the echo of what a system holds dies out, and what shows it."""

from echohouse.errors import NoTable, TooMany
from echohouse.fracs import LESS, NOUGHT, ONE, below, frac
from echohouse.solving import cleared, solved, still
from echohouse.steering import refuse_aim
from echohouse.tables import (
    applied, is_nought, is_nought_table, is_row, is_table, noughts, product, raised, row_scaled, shared_bottom,
    table_less, turned, unit, weighed,
)
from echohouse.turns import refuse_many

MOST_CELLS = 4


class Fading:
    """What is told of a system's echo; this plain one tells nothing."""

    def dies(self):
        return False

    def shows(self, system):
        return False


class Dies(Fading):
    """A positive weighing that falls at every turn by the sum of squares of the state."""

    def __init__(self, weighing):
        self.weighing = weighing

    def dies(self):
        return True

    def shows(self, system):
        return falls_by_squares(system, self.weighing) and is_positive(self.weighing)


class Lives(Fading):
    """A weighing that falls by the sum of squares, and a state, not nought, whose weight is nought or below."""

    def __init__(self, weighing, state):
        self.weighing = weighing
        self.state = state

    def shows(self, system):
        if not is_row(self.state, system.cells()) or is_nought(self.state):
            return False
        return falls_by_squares(system, self.weighing) and not below(NOUGHT, weight(self.weighing, self.state))


class Steady(Fading):
    """A weighing, not nought, that never falls."""

    def __init__(self, weighing):
        self.weighing = weighing

    def shows(self, system):
        if not is_weighing(system, self.weighing) or is_nought_table(self.weighing):
            return False
        return is_nought_table(fall(system, self.weighing))


def is_weighing(system, thing):
    cells = system.cells()
    return is_table(thing, cells, cells) and turned(thing, cells) == thing


def falls_by_squares(system, thing):
    return is_weighing(system, thing) and fall(system, thing) == unit(system.cells())


def weight(weighing, state):
    return weighed(state, applied(weighing, state))


def fall(system, weighing):
    move = system.tables()[0]
    cells = len(move)
    return table_less(weighing, product(turned(move, cells), product(weighing, move, cells), cells))


def steps_of(table):
    # In whole numbers each cleared row begins with a determinant of the rows up to it; a step is this one by the
    # one ahead of it.
    steps, kept = [], []
    ahead = 1
    for place, row in enumerate(table):
        low = shared_bottom(row)
        left = cleared(raised(row, low), kept)
        steps.append(frac(left[place], ahead * low))
        if left[place] <= 0:
            return steps
        kept.append((place, left))
        ahead = left[place]
    return steps


def is_positive(table):
    # The steps end early only with one that is not above nought.
    return all([below(NOUGHT, step) for step in steps_of(table)])


def echo(system):
    cells = system.cells()
    if cells > MOST_CELLS:
        raise TooMany("the echo is told of at most 4 cells")
    # A weighing is a sum of those with a 1 at one place and at the one across from it, and so are their falls.
    many = len(places(cells))
    falls = turned([numbers_of(fall(system, mirrored(row, cells)), cells) for row in unit(many)], many)
    steady = still(falls, many)
    if steady is not None:
        return Steady(mirrored(steady, cells))
    weighing = mirrored(solved(falls, many, numbers_of(unit(cells), cells)).numbers, cells)
    return Dies(weighing) if is_positive(weighing) else Lives(weighing, low_state(weighing))


def places(cells):
    """The places of a weighing that tell the whole of it."""
    return [(row, column) for row in range(cells) for column in range(row, cells)]


def numbers_of(weighing, cells):
    return [weighing[row][column] for row, column in places(cells)]


def mirrored(numbers, cells):
    """The weighing with these numbers at its places."""
    weighing = noughts(cells, cells)
    for (row, column), number in zip(places(cells), numbers):
        weighing[row][column] = number
        weighing[column][row] = number
    return weighing


def low_state(weighing):
    """A state to which the weighing, which is not positive, gives its first step that is not above nought."""
    at = len(steps_of(weighing)) - 1
    ahead = [row[:at] for row in weighing[:at]]
    numbers = solved(ahead, at, weighing[at][:at]).numbers
    return row_scaled(LESS, numbers) + [ONE] + noughts(1, len(weighing) - at - 1)[0]


def weights_on(system, weighing, state, many):
    move = system.tables()[0]
    if not is_table(weighing, len(move), len(move)):
        raise NoTable("the weighing has not a row for each cell with a number for each cell")
    refuse_aim(system, state)
    refuse_many(many)
    told = [weight(weighing, state)]
    for turn in range(many):
        state = applied(move, state)
        told.append(weight(weighing, state))
    return told
