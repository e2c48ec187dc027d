"""Rings with the greatest ratio of rejections to updates that are over.

`edges` has for each node the row of its triples (node behind, rejections, updates over).
"""

from math import gcd


def order_without_overs(edges):
    """Nodes in an order in which all edges by which no update is over lead onward; nodes on or
    behind a ring of such edges are left out."""
    waiting = [0 for _ in edges]
    for row in edges:
        for behind, _, over in row:
            if over == 0:
                waiting[behind] = waiting[behind] + 1
    order = [node for node in range(len(edges)) if waiting[node] == 0]
    done = 0
    while done < len(order):
        node = order[done]
        done = done + 1
        for behind, _, over in edges[node]:
            if over == 0:
                waiting[behind] = waiting[behind] - 1
                if waiting[behind] == 0:
                    order.append(behind)
    return order


def ring_without_overs(edges, order):
    """Some ring of edges by which no update is over, as pairs (node, number of the edge)."""
    known = {node: True for node in order}
    came = [None for _ in edges]
    for node, row in enumerate(edges):
        for at, (behind, _, over) in enumerate(row):
            if over == 0 and node not in known and behind not in known:
                came[behind] = (node, at)
    return ring_in(came)


def ring_in(came):
    """Some ring of those steps by which nodes were come to, or None.

    `came` has for each node a pair (node ahead, number of the edge), or None.
    """
    seen = [-1 for _ in came]
    for start in range(len(came)):
        node = start
        while seen[node] < 0 and came[node] is not None:
            seen[node] = start
            node = came[node][0]
        if came[node] is not None and seen[node] == start:
            return ring_through(came, node)
    return None


def ring_through(came, node):
    found = [came[node]]
    while found[-1][0] != node:
        found.append(came[found[-1][0]])
    return found[::-1]


class Heights:
    """Integers for all nodes that grow along each edge as a pair (p, q) asks: by at least q for a
    rejection, less p for an update that is over."""

    def __init__(self, edges, order, pair):
        self.edges = edges
        self.order = order
        self.pair = pair
        self.heights = [0 for _ in edges]
        self.came = [None for _ in edges]
        # A ring around which more is asked than there is room for; there are heights if it is None.
        self.ring = None
        while self.ring is None and self.raise_all():
            self.ring = ring_in(self.came)

    def raise_all(self):
        """Raise each node by the edges that lead to it; whether one was raised."""
        by_over, by_rejection = self.pair
        heights = self.heights
        is_changed = False
        for node in self.order:
            for at, (behind, rejected, over) in enumerate(self.edges[node]):
                height = heights[node] + by_rejection * rejected - by_over * over
                if height > heights[behind]:
                    heights[behind] = height
                    self.came[behind] = (node, at)
                    is_changed = True
        return is_changed


def ratio_of(edges, ring):
    rejected = sum([edges[node][at][1] for node, at in ring])
    over = sum([edges[node][at][2] for node, at in ring])
    part = gcd(rejected, over)
    return rejected // part, over // part


def best_ring(edges, order):
    """The greatest ratio and a ring that has it, where no ring is without an update that is over:
    (0, 1) and None if no ring has a rejection."""
    pair = (0, 1)
    ring = None
    heights = Heights(edges, order, pair)
    while heights.ring is not None:
        ring = heights.ring
        pair = ratio_of(edges, ring)
        heights = Heights(edges, order, pair)
    return pair, ring
