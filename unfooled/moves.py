"""All that can come next behind a standing."""

from itertools import combinations

from unfooled.reading import begin_anew, drain, go_on, may_go_on
from unfooled.sight import Sight
from unfooled.updating import (begin, can_be_spared, end_if_done, flush, given, may_step,
                               next_words, step)


def own_moves(plan, standing):
    """What the watched reader itself can do."""
    found = []
    sight = Sight(plan, standing)
    if sight.stores != []:
        drain(sight)
        found.append((("own", "drain"), sight.fold(plan), (), ()))
        sight = Sight(plan, standing)
    if may_go_on(plan, sight):
        word = plan.steps[sight.at][0]
        harms, end = go_on(plan, sight)
        if end == "again":
            begin_anew(plan, sight)
        behind = sight.fold(plan) if end in ("", "again") else None
        words = (word,) if end == "" else (word, end)
        found.append((("own", "next"), behind, tuple(sorted(harms)), words))
    return found


def update_behind(plan, sight):
    """The standing behind something that an update did, and the words for it."""
    words = end_if_done(plan, sight)
    return sight.fold(plan), words


def begin_moves(plan, standing):
    found = []
    for name in plan.scripts:
        sight = Sight(plan, standing)
        begin(plan, sight, name)
        found.append((("update", f"begin {name}"), sight.fold(plan), (), ()))
    return found


def flush_moves(plan, standing):
    if standing[0][4] == ():
        return []
    sight = Sight(plan, standing)
    flush(plan, sight)
    behind, words = update_behind(plan, sight)
    return [(("update", "flush"), behind, (), words)]


def spared_lots(plan, sight, words):
    """The lots of held cells that others can spare at a step give, but the empty one."""
    cells = sorted([cell for cell in given(sight, words) if can_be_spared(plan, sight, cell)])
    return [lot for many in range(1, len(cells) + 1) for lot in combinations(cells, many)]


def step_labels(plan, sight, words):
    """The labels for the update's next step, if it is possible."""
    if words is None or not may_step(plan, sight, words):
        return []
    found = []
    if words[0] == "take" and plan.is_any:
        cells = [cell for cell in sight.held(plan) if sight.places[cell] == "back"]
        found = [("update", "back", cell) for cell in cells]
    found.append(("update", "step"))
    if words[0] == "try" and sight.elder and sight.shown != "past":
        found.append(("kept",))
    if words[0] == "give" and len(words) == 3:
        found = [*found, *[("spared", lot) for lot in spared_lots(plan, sight, words)]]
    return found


def step_moves(plan, standing):
    """The moves by the next step of the update in progress."""
    sight = Sight(plan, standing)
    words = next_words(plan, sight)
    found = []
    for label in step_labels(plan, sight, words):
        if found != []:
            sight = Sight(plan, standing)
        cell = label[2] if label[:2] == ("update", "back") else None
        spared = label[1] if label[0] == "spared" else ()
        step(plan, sight, cell, label[0] == "kept", spared)
        behind, told = update_behind(plan, sight)
        found.append((label, behind, (), told))
    return found


def moves(plan, standing):
    """The row of all quadruples (label, standing behind it, harms, words)."""
    if standing[0][0] == "":
        return [*own_moves(plan, standing), *begin_moves(plan, standing)]
    return [*own_moves(plan, standing), *flush_moves(plan, standing), *step_moves(plan, standing)]
