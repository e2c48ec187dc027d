"""How far behind a reading can be."""

from unfooled.changing import is_gone
from unfooled.frontier import Frontier, cost_behind
from unfooled.graph import explored
from unfooled.plan import Plan
from unfooled.readers import TELLING
from unfooled.rings import longest_way
from unfooled.telling import history_of


def can_be_right(plan, standing):
    """Whether a run can still come to be accepted and not torn: as soon as something of it has
    gone, no moment to come has all, so one that was has to have it."""
    run = standing[5]
    return run[5] == "fine" and (run[4] or not is_gone(plan, standing[2], run))


class Readings:
    """The standings of a reader who can come to be right, and which moves count for lags.

    What a rejected run leaves behind only hinders: so a run that is rejected is at its end here.
    """

    def __init__(self, design, reader):
        self.graph = explored(Plan(design, reader, (), False), can_be_right)
        # The last step that tells something; none counts behind it.
        self.last = max([-1, *[at for at, text in enumerate(reader.texts) if text.split(" ")[0] in TELLING]])
        self.done = [standing[5][0] for standing in self.graph.standings]
        self.ends = [number for number, row in enumerate(self.graph.rows)
                     if any([is_good_end(move) for move in row])]

    def counts_on(self, number, move):
        """Whether a move is done as the last telling step is still to come, and goes on."""
        return move[1] is not None and self.done[number] <= self.last

    def coming_to_ends(self):
        """The nodes from which a good end can be come to."""
        ahead = [[] for _ in self.graph.rows]
        for number, row in enumerate(self.graph.rows):
            for _, behind, _, _ in row:
                if behind is not None:
                    ahead[behind].append(number)
        found = {number: True for number in self.ends}
        rows = list(self.ends)
        while rows != []:
            node = rows.pop()
            for number in ahead[node]:
                if number not in found:
                    found[number] = True
                    rows.append(number)
        return found

    def edges_behind(self, firsts, useful):
        """For all nodes that are come to from these, pairs (next node, updates over)."""
        found = {number: [] for number in firsts}
        rows = list(firsts)
        while rows != []:
            number = rows.pop()
            for move in self.graph.rows[number]:
                if not self.counts_on(number, move) or move[1] not in useful:
                    continue
                found[number].append((move[1], 1 if "over" in move[3] else 0))
                if move[1] not in found:
                    found[move[1]] = []
                    rows.append(move[1])
        return found


def is_good_end(move):
    """Whether a move ends a run that is accepted and not torn."""
    return "accepted" in move[3] and "torn" not in move[2] and "used" not in move[2]


def lag(design, name):
    readings = Readings(design, design.reader(name))
    if readings.ends == []:
        return None
    useful = readings.coming_to_ends()
    firsts = {move[1]: True for number, row in enumerate(readings.graph.rows) for move in row
              if "gone" in move[3] and readings.counts_on(number, move) and move[1] in useful}
    if firsts == {}:
        return 0
    most = longest_way(readings.edges_behind(list(firsts), useful))
    return "endless" if most is None else most + 1


def lag_behind(readings, number, move, so_far, many):
    """How many updates count behind a move, of `many` that are enough."""
    if not readings.counts_on(number, move) or "over" not in move[3]:
        return so_far
    if so_far == 0 and "gone" not in move[3]:
        return 0
    return min(so_far + 1, many)


def lag_road(design, name, many):
    reader = design.reader(name)
    readings = Readings(design, reader)
    standings = readings.graph.standings
    frontier = Frontier()
    frontier.offer((0, 0), 0, -1, None)
    node = frontier.nearest()
    while node >= 0:
        number, so_far = frontier.nodes[node]
        for move in readings.graph.rows[number]:
            if so_far >= many and is_good_end(move):
                _, way = frontier.way_to(node)
                way = [(standings[one], label) for (one, _), label in [*way, ((number, so_far), move[0])]]
                return history_of(design, [(reader.name, way)])
            if move[1] is not None:
                behind = (move[1], lag_behind(readings, number, move, so_far, many))
                frontier.offer(behind, cost_behind(frontier.costs[node], move[0]), node, move[0])
        node = frontier.nearest()
    return None
