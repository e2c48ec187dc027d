"""What comes of readers that stay, and how many cells their marks keep."""

from unfooled.heaps import heap
from unfooled.piles import grown_by
from unfooled.plan import oldest_given, steps_of


def shown(design, name, at):
    has_age = False
    marks = {}
    for words in steps_of(design.reader(name))[:at]:
        if words[0] in ("enter", "leave"):
            has_age = words[0] == "enter"
        elif words[0] == "mark":
            marks[words[1]] = words[2]
        elif words[0] == "clear":
            marks.pop(words[1], None)
    return has_age, tuple(sorted(marks.items()))


def words_that_stop(steps):
    return [words[0] for words in steps if words[0] in ("wait", "move")]


def can_grow(design, has_age):
    """Whether some kind by itself lets the heap grow without end, beside such a reader."""
    oldest = oldest_given(design.kinds)
    scripts = [steps_of(kind) for kind in design.kinds]
    if has_age:
        # A kind that would come to stand still lets nothing grow; a try does nothing.
        scripts = [[words for words in steps if words[0] != "try"] for steps in scripts
                   if words_that_stop(steps) == []]
    return any([steps != [] and grown_by(steps, oldest) > 0 for steps in scripts])


def stay(design, name, at):
    has_age, _ = shown(design, name, at)
    found = []
    if can_grow(design, has_age):
        found.append("heap")
    if has_age and any([words_that_stop(steps_of(kind)) != [] for kind in design.kinds]):
        found.append("wait")
    return tuple(found)


def all_stays(design, name):
    return tuple([stay(design, name, at) for at in range(len(design.reader(name)) + 1)])


def easy(design):
    return tuple(sorted([reader.name for reader in design.readers
                         if all([words == () for words in all_stays(design, reader.name)])]))


def slots_put(design):
    """The slots into which some kind puts."""
    return {words[1]: True for kind in design.kinds for words in steps_of(kind) if words[0] == "put"}


def laid_by(marks):
    """Marks as they are behind a run: the cells are numbered by the marks."""
    numbers = {}
    found = []
    for mark in sorted(marks):
        cell = marks[mark]
        if cell not in numbers:
            numbers[cell] = (len(numbers), "")
        found.append((mark, numbers[cell]))
    return tuple(found)


def run_behind(steps, slots, start):
    """The marks with which a run can end, and the greatest number of cells on the way.

    A cell is told by a pair: of elder runs (number, ""), of this run (-1, slot).
    """
    marks = dict(start)
    most = 0
    ends = []
    for words in steps:
        if words[0] in ("mark", "clear"):
            marks.pop(words[1], None)
        if words[0] == "mark" and words[2] in slots:
            marks[words[1]] = (-1, words[2])
        if words[0] == "look" and words[1] in slots:
            ends.append(laid_by(marks))
        most = max(most, len(set(list(marks.values()))))
    return [*ends, laid_by(marks)], most


def kept(design, name):
    steps = steps_of(design.reader(name))
    slots = slots_put(design)
    rows = [()]
    known = {(): True}
    most = 0
    while rows != []:
        ends, many = run_behind(steps, slots, rows.pop())
        most = max(most, many)
        for end in ends:
            if end not in known:
                known[end] = True
                rows.append(end)
    return most


def heap_by(design, many):
    greatest = heap(design)
    if greatest is None:
        return None
    return greatest + many * max([kept(design, reader.name) for reader in design.readers])
