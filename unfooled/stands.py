"""One reader in its first run beside updates: what counts for how often a number turns.

A stand is a tuple (kind, done, barred, at, shown, marks, cell, tallies).
"""

from unfooled.errors import NoStep
from unfooled.plan import oldest_given, steps_of
from unfooled.readers import COMPARING
from unfooled.words import is_number_below

NO_CELL = ("none",)


class Question:
    """A check `same` or `look` of a reader, and what scripts tell of it."""

    def __init__(self, design, reader, at):
        self.steps = steps_of(reader)
        self.scripts = {kind.name: steps_of(kind) for kind in design.kinds}
        self.slots = design.slots
        self.oldest = oldest_given(design.kinds)
        self.is_any = design.reuse == "any"
        self.at = at
        words = self.steps[at]
        self.is_look = words[0] == "look"
        self.slot = words[1] if self.is_look else ""
        # Turns are counted behind the step `first`, and ahead of the step `last`.
        self.first = self.steps.index(("read", self.slot)) if self.is_look else words[1]
        self.last = at if self.is_look else words[2]
        self.turning = ("put", self.slot) if self.is_look else ("bump", self.steps[self.first][1])
        self.checks = [one for one in self.steps[:at] if one[0] in COMPARING]
        sizes = dict(design.rounds)
        self.sizes = [sizes[self.steps[check[1]][1]] for check in self.checks]

    def is_counted(self, at, words):
        """Whether a step of an update, when the reader has done so many steps, is a turn."""
        return words == self.turning and self.first < at <= self.last

    def beginning(self):
        return ("", 0, False, 0, "none", (), NO_CELL, tuple([0 for _ in self.checks]))

    def is_asked(self, stand):
        """Whether the check comes next (for a look: and the cell hangs there anew)."""
        return stand[3] == self.at and (not self.is_look or stand[6] == ("hung", self.slot, True))


def question_of(design, name, at, word):
    """The question for a check; the errors for a wrong name, or number of a step."""
    reader = design.reader(name)
    if not is_number_below(at, len(reader)) or reader.texts[at].split(" ")[0] != word:
        raise NoStep(at)
    return Question(design, reader, at)


def tallies_behind(question, at, tallies, counter):
    """The tallies as a counter has turned, when the reader has done so many steps."""
    found = []
    for check, size, tally in zip(question.checks, question.sizes, tallies):
        goes = at <= check[1] if check[0] == "even" else check[1] < at <= check[2]
        if not goes or question.steps[check[1]][1] != counter:
            found.append(tally)
        elif size is not None:
            found.append((tally + 1) % size)
        else:
            found.append(1 if check[0] == "same" else (tally + 1) % 2)
    return tuple(found)


def may_see(question, at, tallies):
    """Whether all checks that ask for the number that is seen at a step will say yes."""
    for check, tally in zip(question.checks, tallies):
        if check[-1] == at and (tally != 0 if check[0] == "same" else tally % 2 != 0):
            return False
    return True


def cell_behind(oldest, words, cell, marks):
    """Where a watched cell is behind a step of an update (another cell being taken), if these
    marks tell it; `oldest` is the greatest number of ages that is told."""
    if words[0] == "put":
        if cell == ("hand",):
            return ("hung", words[1], True)
        return ("out",) if cell[:2] == ("hung", words[1]) else cell
    if words[0] == "aside" and cell == ("out",):
        return ("aside", 0)
    if cell[0] != "aside":
        return cell
    if words[0] in ("move", "try"):
        return ("aside", min(cell[1] + 1, oldest))
    if words[0] == "give" and cell[1] >= words[1] and (len(words) == 2 or marks == ()):
        return ("back",)
    return cell


def own_moves(question, stand):
    """The row of the move of the reader itself, up to the check: (event, stand, False)."""
    kind, done, barred, at, shown, marks, cell, tallies = stand
    if at == question.at:
        return []
    words = question.steps[at]
    if words[0] == "num" and not may_see(question, at, tallies):
        return []
    if words[0] in ("enter", "leave"):
        shown = "now" if words[0] == "enter" else "none"
        barred = False
    elif words[0] == "mark" and cell != NO_CELL:
        marks = with_mark(marks, words[1], words[2] == question.slot)
    elif words[0] == "clear":
        marks = with_mark(marks, words[1], False)
    elif words == ("read", question.slot):
        cell = ("hung", question.slot, False)
    return [("next", (kind, done, barred, at + 1, shown, marks, cell, tallies), False)]


def with_mark(marks, mark, tells):
    """The lot of the marks that tell the watched cell, as one of them is set anew."""
    others = [one for one in marks if one != mark]
    return tuple(sorted([*others, mark] if tells else others))


def is_barred(script, done, shown):
    """Whether the next step of an update is a wait that the reader keeps from being done."""
    return done < len(script) and script[done] == ("wait",) and shown != "none"


def update_moves(question, stand):
    """The moves of updates: (event, stand, whether a turn is counted)."""
    kind, done, barred, at, shown, marks, cell, tallies = stand
    if kind == "":
        return [(f"begin {name}", (name, 0, is_barred(script, 0, shown), *stand[3:]), False)
                for name, script in question.scripts.items()]
    script = question.scripts[kind]
    words = script[done]
    if words[0] == "wait" and barred or words[0] == "move" and shown == "past":
        return []
    if words[0] != "try" or shown != "past":
        cell = cell_behind(question.oldest, words, cell, marks)
    if words[0] in ("move", "try") and shown == "now":
        shown = "past"
    if words[0] == "bump":
        tallies = tallies_behind(question, at, tallies, words[1])
    head = ("", 0, False) if done + 1 == len(script) else (kind, done + 1,
                                                           is_barred(script, done + 1, shown))
    found = [("step", (*head, at, shown, marks, cell, tallies), question.is_counted(at, words))]
    if words[0] == "take" and cell == ("back",) and question.is_any:
        found.append(("back", (*head, at, shown, marks, ("hand",), tallies), False))
    return found


def stand_moves(question, stand):
    return [*own_moves(question, stand), *update_moves(question, stand)]


def starts_of(question):
    """All stands in which the reader can be right behind the step `first`."""
    rows = [question.beginning()]
    known = {rows[0]: True}
    found = []
    while rows != []:
        stand = rows.pop()
        for _, behind, _ in stand_moves(question, stand):
            if behind in known:
                continue
            known[behind] = True
            if behind[3] > question.first:
                found.append(behind)
            else:
                rows.append(behind)
    return found
