"""What a watched reader sees of the house, and which standings this leaves."""

from unfooled.errors import InvalidLog
from unfooled.moves import moves
from unfooled.numbering import first_standing
from unfooled.plan import Plan
from unfooled.readers import CHECKS
from unfooled.reading import NEXT
from unfooled.ways import reached

# The number that stands for the end of the run.
OVER = -1


def row_seen(plan, standing, words):
    """The row that the reader's next step shows, if these are the words of the move."""
    step = plan.steps[standing[5][0]]
    if step[0] == "read":
        return ("read", step[1], slot_alike(plan, standing, step[1]))
    if step[0] == "num":
        place = plan.counters.index(step[1])
        return ("num", step[1], 0 if plan.sizes[step[1]] is None else standing[3][place])
    if step[0] in CHECKS:
        return (*step, "no" if "rejected" in words or "again" in words else "yes")
    return ("done",)


def slot_alike(plan, standing, slot):
    """The first slot of those that were read whose cell hangs in this slot, or an empty word."""
    hung = standing[2][plan.places[slot]][0]
    alike = [told[0] for told in standing[5][1] if told[1] == hung]
    for step in plan.steps:
        if step[0] == "read" and step[1] in alike:
            return step[1]
    return ""


def rows_possible(reader, sizes, at):
    """All rows that have the form of a step; `sizes` tells the rounds of the counters."""
    words = reader.texts[at].split(" ")
    if words[0] == "read":
        ahead = [text.split(" ")[1] for text in reader.texts[:at] if text.startswith("read ")]
        return [("read", words[1], slot) for slot in ["", *ahead]]
    if words[0] == "num":
        size = sizes[words[1]]
        return [("num", words[1], number) for number in range(1 if size is None else size)]
    if words[0] in CHECKS:
        told = [int(word) if word.isdigit() else word for word in words]
        return [(*told, "yes"), (*told, "no")]
    return [("done",)]


def check_log(design, reader, log):
    """The error for any value that is no log of this reader."""
    if not isinstance(log, tuple):
        raise InvalidLog(0)
    sizes = dict(design.rounds)
    at = 0
    for number, row in enumerate(log):
        if at == len(reader) or repr(row) not in [repr(one) for one in rows_possible(reader, sizes, at)]:
            raise InvalidLog(number)
        at = at + 1
        if row[-1] == "no" and row[0] in CHECKS:
            at = 0 if reader.word == "again" else len(reader)


class Sights:
    """The standings of a watched reader by their numbers, led on only as far as they are asked; and
    lots of those that it cannot tell apart, each with all that come of it unseen."""

    def __init__(self, plan):
        self.plan = plan
        self.standings = []
        self.known = {}
        # For each standing the row of pairs (label, standing behind it) of all moves that are not
        # seen; and what its own next step shows: (row, standing behind it or OVER, harms), or None.
        self.unseen = {}
        self.seen = {}
        # Ascending lots of standings, and for each a dict of the lots behind the rows it can show.
        self.lots = []
        self.lots_known = {}
        self.rows = {}
        self.lot_of([self.number_of(first_standing(plan))])

    def number_of(self, standing):
        if standing not in self.known:
            self.known[standing] = len(self.standings)
            self.standings.append(standing)
        return self.known[standing]

    def lead_on(self, number):
        if number in self.unseen:
            return
        standing = self.standings[number]
        unseen = []
        self.seen[number] = None
        for label, behind, harms, words in moves(self.plan, standing):
            after = OVER if behind is None else self.number_of(behind)
            if label == NEXT:
                self.seen[number] = (row_seen(self.plan, standing, words), after, harms)
            else:
                unseen.append((label, after))
        self.unseen[number] = unseen

    def unseen_behind(self, number):
        self.lead_on(number)
        return [behind for _, behind in self.unseen[number]]

    def seen_at(self, number):
        self.lead_on(number)
        return self.seen[number]

    def lot_of(self, firsts):
        """The number of the lot of these standings, and of all that come of them unseen."""
        lot = tuple(sorted(reached(firsts, lambda number: self.unseen_behind(number))))
        if lot not in self.lots_known:
            self.lots_known[lot] = len(self.lots)
            self.lots.append(lot)
        return self.lots_known[lot]

    def rows_behind(self, lot):
        """The rows that can come next behind a lot, each with the lot behind it or OVER."""
        if lot not in self.rows:
            found = {}
            for number in self.lots[lot]:
                told = self.seen_at(number)
                if told is not None:
                    found.setdefault(told[0], []).append(told[1])
            self.rows[lot] = {row: OVER if OVER in found[row] else self.lot_of(found[row])
                              for row in sorted(found)}
        return self.rows[lot]

    def lots_behind(self, lot):
        """The lots behind a lot as the run goes on."""
        return [behind for behind in self.rows_behind(lot).values() if behind != OVER]

    def followed(self, log):
        """The lots ahead of and behind the rows of a log, as far as they fit; OVER for the end."""
        found = [0]
        for row in log:
            behind = self.rows_behind(found[-1]).get(row)
            if behind is None:
                break
            found.append(behind)
        return found

    def way_along(self, log, is_wanted):
        """A shortest way, of pairs (standing, label), along which a log is seen, to a standing that
        a function wants (if the run goes on); or None."""
        came = {(0, 0): None}
        rows = [(0, 0)]
        done = 0
        while done < len(rows):
            number, many = rows[done]
            done = done + 1
            if many == len(log) and is_wanted(number):
                return self.way_back(came, (number, many))
            for label, behind in self.steps_along(log, number, many):
                if behind[0] == OVER:
                    return [*self.way_back(came, (number, many)), (self.standings[number], label)]
                if behind not in came:
                    came[behind] = ((number, many), label)
                    rows.append(behind)
        return None

    def steps_along(self, log, number, many):
        """The pairs (label, (standing behind, rows seen)) by which a way along a log goes on."""
        told = self.seen_at(number)
        found = [(label, (behind, many)) for label, behind in self.unseen[number]]
        if told is not None and many < len(log) and told[0] == log[many]:
            found.append((NEXT, (told[1], many + 1)))
        return found

    def way_back(self, came, node):
        found = []
        step = came[node]
        while step is not None:
            node, label = step
            found.append((self.standings[node[0]], label))
            step = came[node]
        return found[::-1]


def sights_of(design, name, is_bare):
    """The sights of a reader; with `is_bare` what it uses is left aside."""
    reader = design.reader(name)
    known = design.memory.sights
    if (name, is_bare) not in known:
        plan = Plan(design, reader, (), reader.word == "again", is_bare)
        if is_bare:
            plan.leave_aside(design.kinds, True)
        known[(name, is_bare)] = Sights(plan)
    return known[(name, is_bare)]
