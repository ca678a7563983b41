"""What runs refuse, the same for all things that are run."""

from echohouse.errors import NoFit, NoTurns
from echohouse.fracs import is_whole_below
from echohouse.tables import is_row

MOST_TURNS = 60


def refuse_run(cells, ins, start, inputs):
    """Refuses what is no state of so many cells, and no list of inputs for so many lines in."""
    if not is_row(start, cells):
        raise NoFit("the state has not a fraction for each cell")
    if not isinstance(inputs, list) or len(inputs) > MOST_TURNS:
        raise NoTurns("the inputs are no list of at most sixty")
    if not all([is_row(given, ins) for given in inputs]):
        raise NoFit("an input has not a fraction for each line in")


def refuse_many(many):
    if not is_whole_below(many, MOST_TURNS + 1):
        raise NoTurns("how many is no whole number from 0 to 60")
