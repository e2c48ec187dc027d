"""Least roads of standings to a harm of one watched run, or of one behind another one."""

from unfooled.frontier import Frontier, cost_behind
from unfooled.moves import moves
from unfooled.plan import Plan
from unfooled.reading import fits_coming, go_on
from unfooled.sight import Sight, first_standing
from unfooled.updating import memory_is_good

NOTHING = (0, 0, 0)


def all_standings(plan):
    """All standings that come about, each with what can come next."""
    first = first_standing(plan)
    found = {first: True}
    rows = [first]
    told = []
    while rows != []:
        standing = rows.pop()
        behind = moves(plan, standing)
        told.append((standing, behind))
        for move in behind:
            if move[1] is not None and move[1] not in found:
                found[move[1]] = True
                rows.append(move[1])
    return told


def harms_met(plan):
    """The lot of the harms, but back, that a watched run can meet."""
    met = {}
    for _, behind in all_standings(plan):
        for move in behind:
            for harm in move[2]:
                met[harm] = True
    return tuple(sorted(met))


def road_to(plan, reader, harm):
    """A least road: (updates that begin, legs), each leg (name, pairs (standing, label))."""
    frontier = Frontier()
    frontier.offer(first_standing(plan), NOTHING, (None, None))
    standing = frontier.nearest()
    while standing is not None:
        cost = frontier.costs[standing]
        for label, behind, harms, _ in moves(plan, standing):
            if harm in harms:
                _, way = frontier.way_to(standing)
                return cost[0], [(reader.name, [*way, (standing, label)])]
            if behind is not None:
                frontier.offer(behind, cost_behind(cost, label), (standing, label))
        standing = frontier.nearest()
    return None


def seat_behind(plan, later, standing):
    """The standing of a later reader that comes as the watched run has done its last step."""
    sight = Sight(plan, standing)
    go_on(plan, sight)
    sight.shown = "none"
    sight.stores = []
    sight.marks = {}
    sight.at = 0
    sight.reads = {}
    sight.looks = {}
    sight.answers = {}
    sight.word = "fine"
    sight.barred = False
    sight.past = not any([pair in sight.touched for pair in later.pairs])
    sight.touched = {pair: True for pair in later.touchable if pair in sight.touched}
    sight.lots = {slot: only_tracked(later, sight.lots[slot]) for slot in later.slots}
    sight.written = only_tracked(later, sight.written)
    sight.buffer = [(*store[:3], only_tracked(later, store[3])) if store[0] == "put" else store
                    for store in sight.buffer]
    return sight.fold(later)


def only_tracked(plan, lot):
    return tuple([part for part in lot if part in plan.tracked])


def offer_seats(later, plan, frontier, seats, number):
    """Go all ways of a first run; offer the seats of those who come as it was early."""
    frontier.offer(first_standing(plan), NOTHING, (None, None))
    standing = frontier.nearest()
    while standing is not None:
        cost = frontier.costs[standing]
        for label, behind, harms, _ in moves(plan, standing):
            if "early" in harms:
                seat = seat_behind(plan, later, standing)
                start = (number, standing, label)
                seats.offer((seat, False), cost_behind(cost, label), (None, start))
            if behind is not None:
                frontier.offer(behind, cost_behind(cost, label), (standing, label))
        standing = frontier.nearest()


def goes_back(plan, standing, is_after):
    """Whether a run that does its last step now fits only to moments ahead of the update in
    which it began; `is_after`: some moment from there on has all that it used."""
    sight = Sight(plan, standing)
    go_on(plan, sight)
    return (sight.word == "fine" and sight.past and not is_after
            and not fits_coming(plan, sight))


def node_behind(plan, node, move):
    """The node behind a move of the later reader, or None if it can go back no more."""
    standing, is_after = node
    _, behind, _, words = move
    if behind is None or "again" in words:
        return None
    if "over" not in words:
        return behind, is_after and behind[5][4]
    if standing[5][0] == 0:
        # It must begin in the very update in which the other one was early.
        return None
    return behind, (is_after and behind[5][4]) or memory_is_good(plan, Sight(plan, behind))


def users(design):
    """The readers that use something: others are neither early, nor do they go back."""
    return [reader for reader in design.readers if reader.parts != ()]


def road_back(design, reader, firsts):
    """A least road to the harm back, told as by `road_to`, or None; `firsts` are the readers
    of whom some run may be early."""
    if reader.parts == ():
        return None
    later = Plan(design, reader, ())
    seats = Frontier()
    frontiers = [Frontier() for _ in firsts]
    for number, first in enumerate(firsts):
        plan = Plan(design, first, later.pairs)
        offer_seats(later, plan, frontiers[number], seats, number)
    node = seats.nearest()
    while node is not None:
        cost = seats.costs[node]
        for move in moves(later, node[0]):
            if "accepted" in move[3] and goes_back(later, node[0], node[1]):
                number, ahead, way = ways_back(frontiers, seats, node)
                return cost[0], [(firsts[number].name, ahead), (reader.name, [*way, (node[0], move[0])])]
            behind = node_behind(later, node, move)
            if behind is not None:
                seats.offer(behind, cost_behind(cost, move[0]), (node, move[0]))
        node = seats.nearest()
    return None


def ways_back(frontiers, seats, node):
    """The number of the reader that was early, its way, and that of the later one."""
    start, way = seats.way_to(node)
    number, standing, label = start
    _, ahead = frontiers[number].way_to(standing)
    return number, [*ahead, (standing, label)], [(one[0], told) for one, told in way]
