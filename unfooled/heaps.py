"""How many cells can pile up, and how soon a cell can come back."""

from unfooled.errors import NoName
from unfooled.piles import empty, grown_by, heap_of, rows_behind
from unfooled.plan import oldest_given, steps_of
from unfooled.stands import cell_behind
from unfooled.words import is_number, is_row_of


def empty_pile(design):
    return empty(oldest_given(design.kinds))


def piles_within(design, pile, name):
    return tuple(rows_behind(steps_of(design.kind(name)), pile))


def pile_after(design, pile, name):
    return piles_within(design, pile, name)[-1]


def growth(design, name):
    return grown_by(steps_of(design.kind(name)), oldest_given(design.kinds))


def growing(design):
    return tuple(sorted([kind.name for kind in design.kinds if growth(design, kind.name) > 0]))


def least_names(design, most):
    """The names of as few kinds as can be that come to a heap above a number, or None; and the
    piles that were come to behind whole updates."""
    rows = [empty_pile(design)]
    came = {rows[0]: ()}
    at = 0
    while at < len(rows):
        pile = rows[at]
        at = at + 1
        for kind in design.kinds:
            names = (*came[pile], kind.name)
            within = piles_within(design, pile, kind.name)
            if any([heap_of(one) > most for one in within]):
                return names, rows
            if within[-1] not in came:
                came[within[-1]] = names
                rows.append(within[-1])
    return None, rows


def heap_road(design, most):
    return least_names(design, most)[0]


def heap(design):
    if growing(design) != ():
        return None
    greatest = 0
    rows = [empty_pile(design)]
    known = {rows[0]: True}
    while rows != []:
        pile = rows.pop()
        for kind in design.kinds:
            within = piles_within(design, pile, kind.name)
            greatest = max([greatest, *[heap_of(one) for one in within]])
            if within[-1] not in known:
                known[within[-1]] = True
                rows.append(within[-1])
    return greatest


def heap_paper(design, most):
    names, rows = least_names(design, most)
    return None if names is not None else tuple(rows)


def is_pile(value, oldest):
    """Whether any value has the form of a pile."""
    if not is_row_of(value, 3) or not is_row_of(value[2], oldest + 1):
        return False
    return all([is_number(many) for many in [*value[:2], *value[2]]]) and value[0] <= 1


def heap_holds(design, most, value):
    oldest = oldest_given(design.kinds)
    if not isinstance(value, tuple) or not all([is_pile(pile, oldest) for pile in value]):
        return False
    known = {pile: True for pile in value}
    if empty_pile(design) not in known:
        return False
    for pile in known:
        for kind in design.kinds:
            within = piles_within(design, pile, kind.name)
            if within[-1] not in known or any([heap_of(one) > most for one in within]):
                return False
    return True


def cells_behind(oldest, is_any, words, cell):
    """Where a watched cell can be behind a step of an update."""
    if words[0] == "take" and cell == ("back",) and is_any:
        return [cell, ("hand",)]
    return [cell_behind(oldest, words, cell, ())]


def ends_behind(design, slot, steps, cell):
    """Where a watched cell can be behind some steps; None if it can hang in the slot again."""
    oldest = oldest_given(design.kinds)
    cells = [cell]
    for words in steps:
        cells = [behind for one in cells
                 for behind in cells_behind(oldest, design.reuse == "any", words, one)]
        if ("hung", slot, True) in cells:
            return None
    return cells


def soonest_back_road(design, slot):
    if not isinstance(slot, str) or slot not in design.slots:
        raise NoName(slot)
    # The parts of updates that come next: of the first one, what is behind its put.
    rows = [((), ("out",), kind.name, steps_of(kind)[at + 1:]) for kind in design.kinds
            for at, words in enumerate(steps_of(kind)) if words == ("put", slot)]
    known = {}
    at = 0
    while at < len(rows):
        names, cell, name, steps = rows[at]
        at = at + 1
        cells = ends_behind(design, slot, steps, cell)
        if cells is None:
            return (*names, name)
        for behind in cells:
            if behind not in known:
                known[behind] = True
                rows = rows + [((*names, name), behind, kind.name, steps_of(kind)) for kind in design.kinds]
    return None


def soonest_back(design, slot):
    road = soonest_back_road(design, slot)
    return None if road is None else len(road)
