"""All standings of one watched reader that come about, and the moves between them."""

from unfooled.moves import moves
from unfooled.sight import first_standing


class Graph:
    """Standings by their numbers, the beginning first, and for each the row of its moves:
    (label, number of the standing behind it or None, harms, words)."""

    def __init__(self, standings, rows):
        self.standings = standings
        self.rows = rows


def graph_without(plan, harm):
    """The graph of all standings, or None if a move meets the harm."""
    first = first_standing(plan)
    standings = [first]
    numbers = {first: 0}
    rows = []
    while len(rows) < len(standings):
        row = []
        for label, behind, harms, words in moves(plan, standings[len(rows)]):
            if harm in harms:
                return None
            if behind is not None and behind not in numbers:
                numbers[behind] = len(standings)
                standings.append(behind)
            row.append((label, None if behind is None else numbers[behind], harms, words))
        rows.append(row)
    return Graph(standings, rows)


def graph_of(plan):
    """The graph of all standings."""
    return graph_without(plan, "")
