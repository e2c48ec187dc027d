"""A reader that begins anew when it is rejected: its standings, and what counts between them."""

from unfooled.graph import explored
from unfooled.plan import Plan
from unfooled.ratios import best_ring, order_without_overs
from unfooled.readers import CHECKS
from unfooled.rings import longest_way


class Retries:
    """The graph of a reader whose word is taken to be again.

    `edges` has for each standing the row of (standing behind, rejections, updates over), without
    moves by which the reader gets on; `labels` their labels. `order` has all standings so that
    moves by which no update is over lead onward, fewer if some of them lead round.
    """

    def __init__(self, graph):
        self.graph = graph
        rows = [[move for move in row if move[1] is not None] for row in graph.rows]
        self.edges = [[(move[1], 1 if "again" in move[3] else 0, 1 if "over" in move[3] else 0)
                       for move in row] for row in rows]
        self.labels = [[move[0] for move in row] for row in rows]
        self.order = order_without_overs(self.edges)

    def is_blocked(self):
        # Without an update that is over only the reader itself can come round.
        return len(self.order) < len(self.edges)

    def most(self):
        """The greatest number of rejections, or None if there is no greatest one."""
        return longest_way({node: [(behind, rejected) for behind, rejected, _ in row]
                            for node, row in enumerate(self.edges)})

    def best_ratio(self):
        """The greatest ratio, and a ring that has it, as `best_ring` tells them."""
        return best_ring(self.edges, self.order)

    def way_behind(self, steps):
        """A way of pairs (standing, label) by a row of pairs (number, number of the edge)."""
        return [(self.graph.standings[node], self.labels[node][at]) for node, at in steps]

    def steps_to(self, target):
        """A shortest row of pairs (number, number of the edge) from the beginning on."""
        came = {0: None}
        rows = [0]
        done = 0
        while target not in came:
            node = rows[done]
            done = done + 1
            for at, (behind, _, _) in enumerate(self.edges[node]):
                if behind not in came:
                    came[behind] = (node, at)
                    rows.append(behind)
        return steps_back(came, target)


def steps_back(came, target):
    """The row of steps that leads to a node, by what led to each one."""
    found = []
    step = came[target]
    while step is not None:
        found.append(step)
        step = came[step[0]]
    return found[::-1]


def can_be_rejected(plan, standing):
    """Whether some check is still to come: who has none gets on, whatever comes."""
    return any([words[0] in CHECKS for words in plan.steps[standing[5][0]:]])


def retries_of(design, name):
    """The retries of a reader: what it uses does not count for them."""
    reader = design.reader(name)
    known = design.memory.retries
    if name not in known:
        plan = Plan(design, reader, (), True, True)
        plan.leave_aside(design.kinds, True)
        known[name] = Retries(explored(plan, can_be_rejected))
    return known[name]
