"""The rule by which a line out goes on from what it brought out and what came in by a line in."""

from echohouse.errors import NoFit
from echohouse.fracs import is_whole_below, minus
from echohouse.small import small
from echohouse.systems import System, answers
from echohouse.tables import weighed


def rule(system, out, line):
    if not is_whole_below(out, system.outs()) or not is_whole_below(line, system.ins()):
        raise NoFit("there is no such line out, or no such line in")
    single = one_line(system, out, line)
    move, push, look, through = small(single).tables()
    # The last cell of the small form takes a sum of what all its cells hold: that is what the line out would bring
    # out at as many turns one behind the other, the oldest first.
    back = move[-1][::-1] if move else []
    told = [answer[0][0] for answer in answers(single, len(move) + 1)]
    return back, [minus(number, weighed(back[:turn], told[:turn][::-1])) for turn, number in enumerate(told)]


def one_line(system, out, line):
    """The system with this line out and this line in alone."""
    move, push, look, through = system.tables()
    return System(move, [[row[line]] for row in push], [look[out]], [[through[out][line]]])
