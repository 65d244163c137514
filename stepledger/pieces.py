"""Tables cut into pieces, pieces looked at alone, and pieces of steps joined again."""

from stepledger.errors import BadCut
from stepledger.lookers import first_unfit_step, first_unfit_use


def cut_steps(steps, cuts):
    refuse_bad_cuts(cuts, 1, len(steps) - 2)
    # A cut's row ends one piece and begins the next, so that no two neighbours are parted.
    return [steps[begin:end + 1] for begin, end in zip([0] + cuts, cuts + [len(steps) - 1])]


def cut_uses(uses, cuts):
    refuse_bad_cuts(cuts, 0, len(uses))
    return [uses[begin:end] for begin, end in zip([0] + cuts, cuts + [len(uses)])]


def refuse_bad_cuts(cuts, apart, most):
    if not isinstance(cuts, list):
        raise BadCut("the cuts are no list")
    ahead = 0
    for cut in cuts:
        if not is_whole(cut) or cut < ahead + apart or cut > most:
            raise BadCut("a cut is none of the table's, or too near behind the one ahead")
        ahead = cut


def is_whole(number):
    return isinstance(number, int) and not isinstance(number, bool)


def steps_fault(roll, piece):
    return first_unfit_step(roll, piece)


def uses_fault(ahead, piece):
    return first_unfit_use(ahead, piece)


def joined_steps(pieces):
    if len(pieces) == 0:
        raise BadCut("there are no pieces")
    steps = []
    for piece in pieces:
        if len(piece) == 0:
            raise BadCut("a piece has no rows")
        if len(steps) > 0 and piece[0] != steps[-1]:
            raise BadCut("a piece does not begin with the last row of the piece ahead")
        steps.extend(piece if len(steps) == 0 else piece[1:])
    return tuple(steps)
