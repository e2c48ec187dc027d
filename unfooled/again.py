"""How often a reader is rejected that begins anew each time."""

from unfooled.graph import graph_of
from unfooled.ratios import Heights, ring_without_overs
from unfooled.retries import Retries, retries_of
from unfooled.telling import history_with_marks
from unfooled.words import is_integer, is_row_of


def grade(design, reader):
    retries = retries_of(design, reader)
    if retries.is_blocked():
        return "blocked"
    return "free" if retries.most() is None else "bounded"


def gets_on(design, reader):
    return not retries_of(design, reader).is_blocked()


class Rejected:
    """The greatest numbers of rejections with which standings are come to, by how many updates are
    over; and what led there."""

    def __init__(self, retries, updates):
        self.retries = retries
        # For each number of updates: for each standing (rejections, step that led there), the step
        # being (updates ahead, standing ahead, number of the edge).
        self.rows = [{0: (0, None)}]
        self.best = (0, 0, 0)
        for number in range(updates + 1):
            self.go_on(number)

    def go_on(self, number):
        """Lead on all standings with so many updates over, rejections first."""
        row = self.rows[number]
        later = {}
        for node in self.retries.order:
            if node not in row:
                continue
            many = row[node][0]
            if many > self.best[0]:
                self.best = (many, number, node)
            for at, (behind, rejected, over) in enumerate(self.retries.edges[node]):
                found = later if over else row
                if behind not in found or found[behind][0] < many + rejected:
                    found[behind] = (many + rejected, (number, node, at))
        self.rows.append(later)

    def steps_ahead(self):
        """The row of pairs (standing, number of the edge) that leads to the most rejections."""
        found = []
        _, number, node = self.best
        step = self.rows[number][node][1]
        while step is not None:
            number, node, at = step
            found.append((node, at))
            step = self.rows[number][node][1]
        return found[::-1]


def most_rejected(design, reader, updates):
    retries = retries_of(design, reader)
    return None if retries.is_blocked() else Rejected(retries, updates).best[0]


def rejected_road(design, reader, updates):
    retries = retries_of(design, reader)
    if retries.is_blocked():
        return None
    way = retries.way_behind(Rejected(retries, updates).steps_ahead())
    return history_with_marks(design, reader, way)[0]


def rejections(design, reader):
    retries = retries_of(design, reader)
    return None if retries.is_blocked() else retries.best_ratio()[0]


def whole_graph(design, name):
    """The graph of all standings of a reader whose word is again."""
    reader = design.reader(name)
    known = design.memory.again
    if reader.word == "once" and name not in known:
        known[name] = design.with_reader(reader.with_word("again"))
    return graph_of(design if reader.word == "again" else known[name], name)


def height_paper(design, reader):
    pair = rejections(design, reader)
    if pair is None:
        return None
    graph = whole_graph(design, reader)
    retries = Retries(graph)
    heights = Heights(retries.edges, retries.order, pair).heights
    return tuple([(standing, heights[at]) for at, standing in enumerate(graph.standings)])


def heights_told(graph, value):
    """The integers that any value tells for the standings of a graph, in order, or None."""
    if not is_row_of(value, len(graph.standings)):
        return None
    told = {}
    for row in value:
        if not is_row_of(row, 2) or not is_integer(row[1]):
            return None
        told[repr(row[0])] = row[1]
    if not all([text in told for text in graph.all_texts()]):
        return None
    return [told[text] for text in graph.all_texts()]


def heights_hold(design, reader, pair, value):
    graph = whole_graph(design, reader)
    heights = heights_told(graph, value)
    if heights is None:
        return False
    for node, row in enumerate(Retries(graph).edges):
        for behind, rejected, over in row:
            if heights[behind] - heights[node] < pair[1] * rejected - pair[0] * over:
                return False
    return True


def ring_road(design, reader, times):
    retries = retries_of(design, reader)
    if retries.is_blocked():
        ring = ring_without_overs(retries.edges, retries.order)
    else:
        ring = retries.best_ratio()[1]
    if ring is None:
        return None
    ahead = retries.steps_to(ring[0][0])
    way = retries.way_behind([*ahead, *[step for _ in range(times) for step in ring]])
    events, marks = history_with_marks(design, reader, way)
    return events, tuple([marks[len(ahead) + number * len(ring)] for number in range(times + 1)])
