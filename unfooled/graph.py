"""All standings of one watched reader that come about, and the moves between them."""

from unfooled.moves import moves
from unfooled.numbering import first_standing
from unfooled.watched import plan_of

# Greater graphs are worked out anew each time: they would take too much room.
KEPT = 5000


class Graph:
    """Standings by their numbers, the beginning first, and for each the row of its moves:
    (label, number of the standing behind it or None, harms, words)."""

    def __init__(self, standings, rows):
        self.standings = standings
        self.rows = rows
        self.by_text = {}

    def all_texts(self):
        """The texts of all standings with their numbers: texts of plain values are the same just if
        the values are alike, a bool and a number, a list and a tuple being unlike."""
        if self.by_text == {}:
            self.by_text = {repr(standing): at for at, standing in enumerate(self.standings)}
        return self.by_text


def explored(plan, is_useful):
    """The graph of the standings that a function (of plan and standing) lets be gone on from; of
    the others no number is told."""
    first = first_standing(plan)
    standings = [first]
    numbers = {first: 0}
    rows = []
    while len(rows) < len(standings):
        row = []
        standing = standings[len(rows)]
        for label, behind, harms, words in moves(plan, standing):
            if behind is not None and behind not in numbers:
                if is_useful(plan, behind):
                    numbers[behind] = len(standings)
                    standings.append(behind)
                else:
                    numbers[behind] = None
            row.append((label, None if behind is None else numbers[behind], harms, words))
        rows.append(row)
    return Graph(standings, rows)


def every_one(plan, standing):
    return True


def graph_of(design, name):
    """The graph of all standings of a reader."""
    plan = plan_of(design, name)
    graphs = design.memory.graphs
    if name in graphs:
        return graphs[name]
    graph = explored(plan, every_one)
    if len(graph.standings) <= KEPT:
        graphs[name] = graph
    return graph
