"""Least roads to the harm back: a run that is early, and one behind it that sees less."""

from unfooled.changing import is_gone, memory_is_good
from unfooled.frontier import BEGIN, Frontier, cost_behind
from unfooled.moves import moves
from unfooled.numbering import first_standing, renumbered
from unfooled.plan import Plan
from unfooled.reading import fits_coming, own_step


def pairs_of_all(readers):
    """All pairs (slot, part) that some reader uses."""
    texts = [text.split(" ") for reader in readers for text in reader.texts]
    return tuple(sorted(set([(words[1], words[2]) for words in texts if words[0] == "use"])))


def can_be_early(plan, standing):
    """Whether a run can be early from a standing on: all that it used is yet in memory, and what
    it has read and is to use hangs there, since nothing of this comes again."""
    run = standing[5]
    if run[5] != "fine" or run[4] and plan.slots_coming[run[0]] == {}:
        return False
    return not is_gone(plan, standing[2], run)


def early_seats(design, first):
    """What is left of the house for who comes as a run of this reader was early: a dict of pairs
    (cost, way) by standings without a reader."""
    plan = Plan(design, first, pairs_of_all(design.readers), False)
    found = {}
    frontier = Frontier()
    frontier.offer(first_standing(plan), 0, -1, None)
    number = frontier.nearest()
    while number >= 0:
        standing = frontier.nodes[number]
        cost = frontier.costs[number]
        for label, behind, harms, _ in moves(plan, standing):
            if "early" in harms:
                seat = seat_behind(plan, standing)
                if seat not in found:
                    _, way = frontier.way_to(number)
                    found[seat] = (cost, [*way, (standing, label)])
            if behind is not None and can_be_early(plan, behind):
                frontier.offer(behind, cost_behind(cost, label), number, label)
        number = frontier.nearest()
    return found


def seat_behind(plan, standing):
    """The house as the watched run has done its last step, without the reader."""
    behind, _, _ = own_step(plan, standing)
    going, places, slots, counts, _, run = behind
    seat = ((*going[:5], False, going[6]), places, slots, counts, ("none", (), ()),
            (0, (), (), (), True, "fine", run[6]))
    return renumbered(plan, seat)


def only_tracked(plan, lot):
    return tuple([part for part in lot if part in plan.tracked])


def standing_at(plan, seat):
    """The standing of a later reader at a seat, or None if it cannot go back from there: all that
    it will use has to be as it was at the last moment."""
    going, places, slots, counts, seen, run = seat
    if any([pair in plan.to_come[0] for pair in run[6]]):
        return None
    name, done, hand, written, waiting, barred, elder = going
    if waiting != () and waiting[0] == "put":
        waiting = (*waiting[:3], only_tracked(plan, waiting[3]))
    going = (name, done, hand, only_tracked(plan, written), waiting, barred, elder)
    slots = tuple([(cell, only_tracked(plan, lot)) for cell, lot in slots])
    return going, places, slots, counts, seen, (*run[:6], ())


def goes_back(plan, standing):
    """Whether a run that does its last step now fits only to moments ahead of the update in
    which it began."""
    behind, _, _ = own_step(plan, standing)
    run = behind[5]
    return run[5] == "fine" and run[4] and not fits_coming(plan, behind)


def goes_on(plan, standing, move):
    """Whether the later reader can still go back behind a move: some moment has all that it uses,
    but none from the update on in which it began."""
    behind = move[1]
    if behind is None or behind[5][5] != "fine" or not behind[5][4]:
        return False
    if "over" not in move[3]:
        return True
    # It must begin in the very update in which the other one was early.
    return standing[5][0] > 0 and not memory_is_good(plan, behind[2], behind[5])


def road_back(design, reader, seats):
    """A least road to the harm back: (updates that begin, legs), or None; `seats` is a dict by
    the names of the readers who are early."""
    plan = Plan(design, reader, (), False)
    frontier = Frontier()
    for name in seats:
        for seat, (cost, way) in seats[name].items():
            standing = standing_at(plan, seat)
            if standing is not None:
                frontier.offer(standing, cost, -1, (name, way))
    number = frontier.nearest()
    while number >= 0:
        standing = frontier.nodes[number]
        cost = frontier.costs[number]
        for move in moves(plan, standing):
            if "accepted" in move[3] and goes_back(plan, standing):
                first, way = frontier.way_to(number)
                return cost // BEGIN, [first, (reader.name, [*way, (standing, move[0])])]
            if goes_on(plan, standing, move):
                frontier.offer(move[1], cost_behind(cost, move[0]), number, move[0])
        number = frontier.nearest()
    return None
