"""Readers that ask for the lock of the writers when they were rejected too often."""

from unfooled.reading import DRAIN, NEXT
from unfooled.retries import retries_of
from unfooled.ways import reached


def rejected_moves(retries, node):
    """The pairs (standing behind, steps of the rejected run) of the moves that reject."""
    many = retries.graph.standings[node][5][0] + 1
    return [(behind, many) for behind, rejected, _ in retries.edges[node] if rejected]


def spread(retries, firsts):
    """All standings that are come to from these without a rejection, each with the greatest of
    the numbers that these have (a dict by standings)."""
    found = {}
    for first in sorted(firsts, key=lambda node: -firsts[node]):
        if first in found:
            continue
        found[first] = firsts[first]
        rows = [first]
        while rows != []:
            node = rows.pop()
            for behind, rejected, _ in retries.edges[node]:
                if not rejected and behind not in found:
                    found[behind] = firsts[first]
                    rows.append(behind)
    return found


def spent_behind(retries, firsts):
    """For the standings right behind a further rejection the greatest number of steps of all
    rejected runs, if these numbers belong to the standings behind the one ahead."""
    found = {}
    for node, many in spread(retries, firsts).items():
        for behind, steps in rejected_moves(retries, node):
            found[behind] = max(found.get(behind, 0), many + steps)
    return found


def spent_by_tries(retries, tries):
    """For each number of tries up to this one the greatest numbers of steps of rejected runs, by the
    standings right behind the last one; fewer rows if there can be no more rejections."""
    rows = [{0: 0}]
    while len(rows) <= tries and rows[-1] != {}:
        rows.append(spent_behind(retries, rows[-1]))
    return rows


def is_free(retries, node):
    """Whether no update is in progress."""
    return retries.graph.standings[node][0][0] == ""


def waits_on(retries, node):
    """The standings that come next as the reader waits for the update in progress: it drains, and
    the update goes on."""
    if is_free(retries, node):
        return []
    return [behind for at, (behind, _, _) in enumerate(retries.edges[node])
            if retries.labels[node][at] != NEXT]


def own_edges(retries, node):
    return [edge for at, edge in enumerate(retries.edges[node]) if retries.labels[node][at] in (NEXT, DRAIN)]


def own_nexts(retries, node):
    return [behind for behind, _, _ in own_edges(retries, node)]


def lock_helps(retries, firsts):
    """Whether who asks for the lock at these standings always gets on by its first run with it."""
    waiting = reached(firsts, lambda node: waits_on(retries, node))
    locked = [node for node in waiting if is_free(retries, node)]
    if any([waits_on(retries, node) == [] for node in waiting if not is_free(retries, node)]):
        # The update waits for this reader.
        return False
    alone = reached(locked, lambda node: own_nexts(retries, node))
    return not any([rejected for node in alone for _, rejected, _ in own_edges(retries, node)])


def helps_behind(retries, rows, tries):
    """Whether the lock helps, if these are the rows of steps spent by tries."""
    return len(rows) <= tries or lock_helps(retries, list(rows[tries]))


def is_sure(design, reader, tries):
    retries = retries_of(design, reader)
    return helps_behind(retries, spent_by_tries(retries, tries), tries)


def most_steps(design, reader, tries):
    retries = retries_of(design, reader)
    rows = spent_by_tries(retries, tries)
    if not helps_behind(retries, rows, tries):
        return None
    # Whoever was rejected comes to an end of its run once more.
    return len(design.reader(reader)) + max([many for row in rows for many in row.values()])


def tries_needed(design, reader):
    most = retries_of(design, reader).most()
    return None if most is None else most + 1


def longest_rejected(design, reader):
    retries = retries_of(design, reader)
    return max([0, *[steps for node in range(len(retries.edges))
                     for _, steps in rejected_moves(retries, node)]])
