"""Least ways: nodes are offered with costs, and taken with the least cost first."""

from heapq import heappop, heappush

# A cost is one number: how many updates begin, so many times this, and how many others are needed.
BEGIN = 1000000


class Frontier:
    """Nodes that were come to, by their numbers: each with its least cost and what led there."""

    def __init__(self):
        self.nodes = []
        self.costs = []
        # For each node the number of the one ahead (-1 if there is none) and what led from there.
        self.came = []
        self.known = {}
        self.queue = []
        # The numbers of the nodes that were offered with a cost, and how many of them were taken.
        self.rows = {}
        self.cost = -1
        self.at = 0

    def offer(self, node, cost, ahead, label):
        number = self.known.get(node)
        if number is None:
            number = len(self.nodes)
            self.known[node] = number
            self.nodes.append(node)
            self.costs.append(cost)
            self.came.append((ahead, label))
        elif self.costs[number] <= cost:
            return
        else:
            self.costs[number] = cost
            self.came[number] = (ahead, label)
        row = self.rows.get(cost)
        if row is None:
            self.rows[cost] = [number]
            heappush(self.queue, cost)
        else:
            row.append(number)

    def nearest(self):
        """The number of the next node, -1 if there is none."""
        while True:
            row = self.rows.get(self.cost, [])
            while self.at < len(row):
                number = row[self.at]
                self.at = self.at + 1
                # It may have been offered with a lesser cost since, and taken then.
                if self.costs[number] == self.cost:
                    return number
            if self.queue == []:
                return -1
            self.cost = heappop(self.queue)
            self.at = 0

    def way_to(self, number):
        """What the way to a node began with, and its pairs (node, label)."""
        found = []
        ahead, label = self.came[number]
        while ahead >= 0:
            found.append((self.nodes[ahead], label))
            ahead, label = self.came[ahead]
        return label, found[::-1]


def cost_behind(cost, label):
    """The cost behind a label of a move."""
    if label[0] == "update":
        return cost + BEGIN if len(label) == 2 and label[1][:6] == "begin " else cost
    if label[0] == "own":
        return cost
    return cost + (1 if label[0] == "kept" else len(label[1]))
