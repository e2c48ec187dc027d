"""Least ways: nodes are offered with costs, and taken with the least cost first."""

from heapq import heappop, heappush


class Frontier:
    """Nodes that were come to, each with its least cost and where it was come from."""

    def __init__(self):
        self.costs = {}
        self.came = {}
        self.queue = []
        self.nodes = []
        self.taken = {}

    def offer(self, node, cost, came):
        """A way to a node: `came` is a pair (node ahead or None, what led from there)."""
        if node in self.costs and self.costs[node] <= cost:
            return
        self.costs[node] = cost
        self.came[node] = came
        # Nodes themselves are not compared: their number stands for them.
        heappush(self.queue, (cost, len(self.nodes)))
        self.nodes.append(node)

    def nearest(self):
        """The next node, or None."""
        while self.queue != []:
            _, number = heappop(self.queue)
            node = self.nodes[number]
            if node not in self.taken:
                self.taken[node] = True
                return node
        return None

    def way_to(self, node):
        """What the way to a node began with, and its pairs (node, label)."""
        found = []
        ahead, label = self.came[node]
        while ahead is not None:
            found.append((ahead, label))
            ahead, label = self.came[ahead]
        return label, found[::-1]


def cost_behind(cost, label):
    """The cost behind a label: updates that begin, then others that are needed, then steps."""
    begins, others, many = cost
    if label[0] == "update" and label[1].startswith("begin "):
        begins = begins + 1
    if label[0] == "kept":
        others = others + 1
    if label[0] == "spared":
        others = others + len(label[1])
    return begins, others, many + 1
