"""All that can come next behind a standing."""

from unfooled.reading import drain_moves, next_moves
from unfooled.updating import begin_moves, flush_moves, step_moves


def moves(plan, standing):
    """The row of all quadruples (label, standing behind it, harms, words)."""
    own = next_moves(plan, standing)
    if standing[4][1] != ():
        own = [*drain_moves(plan, standing), *own]
    if standing[0][0] == "":
        return [*own, *begin_moves(plan, standing)]
    if standing[0][4] != ():
        own = [*own, *flush_moves(plan, standing)]
    return [*own, *step_moves(plan, standing)]
