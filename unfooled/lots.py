"""Lots: ascending tuples of different things; which of them are least."""

from itertools import combinations


def all_lots(things):
    """All lots of some ascending things, shorter ones first, then ascending."""
    found = []
    for many in range(len(things) + 1):
        for lot in combinations(things, many):
            found.append(lot)
    return found


def is_within(part, lot):
    return all([thing in lot for thing in part])


def least_lots(things, is_enough):
    """The tuple of all lots that are enough, but have no proper part that is."""
    found = []
    for lot in all_lots(things):
        if not any([is_within(part, lot) for part in found]) and is_enough(lot):
            found.append(lot)
    return tuple(found)


def meeting_lots(things, lots):
    """The tuple of all least lots that have something of each of these lots."""
    return least_lots(things, lambda lot: all([any([thing in lot for thing in one]) for one in lots]))


def without_things(things, lot):
    return tuple([thing for thing in things if thing not in lot])
