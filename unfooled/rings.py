"""Rings in a graph: which nodes come to one another."""


class Search:
    """A search for the components of a graph; `nexts` is a dict of the rows of next nodes."""

    def __init__(self, nexts):
        self.nexts = nexts
        self.order = {}
        self.lows = {}
        self.places = {}
        self.stack = []
        self.waiting = {}
        self.found = []

    def visit(self, start):
        """Tarjan's way with a stack of its own: how deep a graph goes does not matter."""
        self.enter(start)
        calls = [start]
        while calls != []:
            node = calls[-1]
            if self.places[node] == len(self.nexts[node]):
                calls.pop()
                self.leave(node)
                if calls != []:
                    self.lows[calls[-1]] = min(self.lows[calls[-1]], self.lows[node])
                continue
            behind = self.nexts[node][self.places[node]]
            self.places[node] = self.places[node] + 1
            if behind not in self.order:
                self.enter(behind)
                calls.append(behind)
            elif behind in self.waiting:
                self.lows[node] = min(self.lows[node], self.order[behind])

    def enter(self, node):
        self.order[node] = len(self.order)
        self.lows[node] = self.order[node]
        self.places[node] = 0
        self.stack.append(node)
        self.waiting[node] = True

    def leave(self, node):
        """All that is come to from a node was seen: is it the first one of a component?"""
        if self.lows[node] != self.order[node]:
            return
        row = []
        while row == [] or row[-1] != node:
            row.append(self.stack.pop())
            self.waiting.pop(row[-1])
        self.found.append(row)


def components(nexts):
    """The lots of nodes that come to one another; behind each lot those that come to it."""
    search = Search(nexts)
    for node in nexts:
        if node not in search.order:
            search.visit(node)
    return search.found


def longest_way(edges):
    """The greatest sum of weights on a way; None if there is no greatest one.

    `edges` is a dict: for each node the row of its pairs (next node, weight), weights 0 or 1.
    """
    place = {}
    best = {}
    nexts = {node: [behind for behind, _ in edges[node]] for node in edges}
    for number, lot in enumerate(components(nexts)):
        for node in lot:
            place[node] = number
        best[number] = 0
        for node in lot:
            for behind, weight in edges[node]:
                if place[behind] == number and weight > 0:
                    return None
                if place[behind] != number:
                    best[number] = max(best[number], weight + best[place[behind]])
    return max(best.values(), default=0)
