"""All that can come next behind a standing."""

from itertools import combinations

from unfooled.reading import begin_anew, drain, go_on, may_go_on
from unfooled.sight import Sight
from unfooled.updating import (begin, can_be_spared, end_if_done, flush, given, may_step,
                               next_words, step)


def own_moves(plan, standing):
    """What the watched reader itself can do."""
    found = []
    sight = Sight(plan, standing)
    if sight.stores != []:
        drain(sight)
        found.append((("own", "drain"), sight.fold(plan), (), ()))
        sight = Sight(plan, standing)
    if may_go_on(plan, sight):
        word = plan.steps[sight.at][0]
        harms, end = go_on(plan, sight)
        if end == "again":
            begin_anew(plan, sight)
        behind = sight.fold(plan) if end in ("", "again") else None
        words = (word,) if end == "" else (word, end)
        found.append((("own", "next"), behind, tuple(sorted(harms)), words))
    return found


def step_move(plan, standing, label, cell, is_kept, spared):
    """The move by which the update does its next step."""
    sight = Sight(plan, standing)
    step(plan, sight, cell, is_kept, spared)
    words = end_if_done(plan, sight)
    return label, sight.fold(plan), (), words


def begin_moves(plan, standing):
    found = []
    for name in plan.scripts:
        sight = Sight(plan, standing)
        begin(plan, sight, name)
        found.append((("update", f"begin {name}"), sight.fold(plan), (), ()))
    return found


def flush_moves(plan, standing):
    sight = Sight(plan, standing)
    if sight.buffer == []:
        return []
    flush(plan, sight)
    words = end_if_done(plan, sight)
    return [(("update", "flush"), sight.fold(plan), (), words)]


def spared_lots(plan, sight, words):
    """The lots of held cells that others can spare at a step give, but the empty one."""
    cells = sorted([cell for cell in given(sight, words)
                    if cell in sight.held(plan) and can_be_spared(plan, sight, cell)])
    return [lot for many in range(1, len(cells) + 1) for lot in combinations(cells, many)]


def step_moves(plan, standing):
    """The moves by the next step of the update in progress."""
    sight = Sight(plan, standing)
    words = next_words(plan, sight)
    if words is None or not may_step(plan, sight, words):
        return []
    found = []
    if words[0] == "take" and plan.is_any:
        for cell in sight.held(plan):
            if sight.places[cell] == "back":
                label = ("update", "back", cell)
                found.append(step_move(plan, standing, label, cell, False, ()))
    found.append(step_move(plan, standing, ("update", "step"), None, False, ()))
    if words[0] == "try" and sight.elder and sight.shown != "past":
        found.append(step_move(plan, standing, ("kept",), None, True, ()))
    if words[0] == "give" and len(words) == 3:
        for lot in spared_lots(plan, sight, words):
            found.append(step_move(plan, standing, ("spared", lot), None, False, lot))
    return found


def moves(plan, standing):
    """The row of all quadruples (label, standing behind it, harms, words)."""
    if standing[0][0] == "":
        return [*own_moves(plan, standing), *begin_moves(plan, standing)]
    return [*own_moves(plan, standing), *flush_moves(plan, standing), *step_moves(plan, standing)]
