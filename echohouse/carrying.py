"""The system of a wiring."""

from echohouse.systems import System
from echohouse.tables import noughts, turned, unit


def from_wiring(wiring):
    # A wiring's turn is a sum of what each single 1, held or sent in, makes of it.
    cells, ins, outs = len(wiring.cell_names()), wiring.ins(), wiring.outs()
    rest, silence = noughts(1, cells)[0], noughts(1, ins)[0]
    held = [wiring.run(state, [silence]) for state in unit(cells)]
    sent = [wiring.run(rest, [given]) for given in unit(ins)]
    return System(
        turned([end for outputs, end in held], cells), turned([end for outputs, end in sent], cells),
        turned([outputs[0] for outputs, end in held], outs), turned([outputs[0] for outputs, end in sent], outs))
