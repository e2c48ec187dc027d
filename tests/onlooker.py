"""What one reader sees, worked out from the stage, and from `led_on` alone."""

from tests.oracle import Watch
from tests.test_papers import come_about
from unfooled.scene import Scene, event_words
from unfooled.watched import led_on

CHECKS = ("look", "same", "even")


def number_or_word(word):
    return int(word) if word.isdigit() else word


class Onlooker:
    """A scene, and the log of the first run of the reader with a number, as it grows."""

    def __init__(self, design, name, number=0):
        self.design, self.number = design, number
        self.scene = Scene(design)
        self.log, self.is_over, self.watch = (), False, None
        self.name = name

    def may(self, text):
        return self.scene.may(event_words(self.design, text))

    def do(self, text):
        assert self.may(text), text
        words = event_words(self.design, text)
        if self.watch is None:
            self.scene.do(words)
            if len(self.scene.guests) > self.number:
                self.watch = Watch(self.scene, self.number)
                assert self.scene.guests[self.number].script.name == self.name
            return
        if text == f"next {self.number}" and not self.is_over:
            self.see(words)
        elif not self.is_over:
            self.watch.do(words)
        else:
            self.scene.do(words)

    def see(self, words):
        """The reader's next step, and the row that it shows."""
        guest, house = self.scene.guests[self.number], self.scene.house
        if guest.done == 0:
            guest.cells = {}
        step = guest.script.texts[guest.done].split(" ")
        done, runs, cells = guest.done, len(self.scene.runs), dict(guest.cells)
        row = ("done",)
        if step[0] == "read":
            order = [text.split(" ")[1] for text in guest.script.texts if text.startswith("read")]
            alike = [slot for slot in order if slot in cells and cells[slot][0] == house.hung[step[1]]]
            row = ("read", step[1], alike[0] if alike else "")
        if step[0] == "num":
            size = dict(self.design.rounds)[step[1]]
            row = ("num", step[1], 0 if size is None else house.counts[step[1]] % size)
        self.watch.do(words)
        self.is_over = len(self.scene.runs) > runs
        if step[0] in CHECKS:
            says = self.scene.runs[-1][1] != "rejected" if self.is_over else guest.done == done + 1
            row = tuple(number_or_word(word) for word in step) + ("yes" if says else "no",)
        self.log += (row,)

    def answer(self, question, goods):
        """The answer to a question about the try that goes on."""
        guest, house = self.scene.guests[self.number], self.scene.house
        if question == ("amid",):
            return house.script is not None
        if question == ("used",):
            return guest.is_spoilt
        if question == ("good",):
            return self.watch.standing() in goods
        if question[1] not in guest.cells:
            return False
        cell, _, life = guest.cells[question[1]]
        if question[0] == "over":
            return house.ended[life]
        return house.hung[question[1]] == cell and not house.ended[life]


def seen_by(design, name, told):
    """The onlooker behind a pair (number, events)."""
    onlooker = Onlooker(design, name, told[0])
    for text in told[1]:
        onlooker.do(text)
    return onlooker


class Beliefs:
    """Lots of standings that a reader cannot tell apart, by led_on alone."""

    def __init__(self, design, name):
        self.design, self.reader = design, design.reader(name)
        self.standings = come_about(design, name)
        self.moves = {standing: led_on(design, name, standing) for standing in self.standings}
        self.goods = self.good_ones()
        self.known = {}
        self.first = self.whole([self.standings[0]])

    def whole(self, firsts):
        found = dict.fromkeys(firsts)
        rows = list(found)
        for standing in rows:
            for label, behind, _, _ in self.moves[standing]:
                if label != ("own", "next") and behind not in found:
                    found[behind] = None
                    rows.append(behind)
        return frozenset(found)

    def row(self, standing, words):
        at, reads = standing[5][0], {told[0]: told[1] for told in standing[5][1]}
        step = self.reader.texts[at].split(" ")
        if step[0] in CHECKS:
            says = not {"rejected", "again"} & set(words)
            return tuple(number_or_word(word) for word in step) + ("yes" if says else "no",)
        if step[0] == "num":
            size = dict(self.design.rounds)[step[1]]
            return ("num", step[1], 0 if size is None else standing[3][self.design.counters.index(step[1])])
        if step[0] == "read":
            cell = standing[2][self.design.slots.index(step[1])][0]
            order = [text.split(" ")[1] for text in self.reader.texts if text.startswith("read")]
            alike = [slot for slot in order if slot in reads and reads[slot] == cell]
            return ("read", step[1], alike[0] if alike else "")
        return ("done",)

    def rows(self, belief):
        """What can come next: lots by rows, None for the end of the run."""
        if belief not in self.known:
            found = {}
            for standing in belief:
                for label, behind, _, words in self.moves[standing]:
                    if label == ("own", "next"):
                        found.setdefault(self.row(standing, words), set()).add(behind)
            self.known[belief] = {row: None if None in found[row] else self.whole(found[row]) for row in found}
        return self.known[belief]

    def behind(self, log):
        """The lot behind a log; None if the run is over, False if it does not fit."""
        belief = self.first
        for row in log:
            belief = self.rows(belief).get(row, False)
            if not belief:
                return belief
        return belief

    def good_ones(self):
        """The standings from which this try neither meets used nor ends with torn."""
        bad = {standing for standing in self.standings if standing[5][5] == "spoilt"
               or any({"used", "torn"} & set(harms) for _, _, harms, _ in self.moves[standing])}
        is_more = True
        while is_more:
            more = {standing for standing in self.standings if standing not in bad
                    and any(behind in bad and "again" not in words for _, behind, _, words in self.moves[standing])}
            bad, is_more = bad | more, bool(more)
        return {standing for standing in self.standings if standing not in bad}

    def answer(self, standing, question):
        if question == ("amid",):
            return standing[0][0] != ""
        if question == ("used",):
            return standing[5][5] == "spoilt"
        if question == ("good",):
            return standing in self.goods
        for slot, cell, state, _, _ in standing[5][1]:
            if slot == question[1]:
                hangs = standing[2][self.design.slots.index(slot)][0] == cell
                return state != "living" if question[0] == "over" else state == "living" and hangs
        return False

    def word(self, belief, question):
        told = {self.answer(standing, question) for standing in belief}
        return "open" if len(told) == 2 else "surely" if True in told else "never"

    def all_lots(self, first):
        """All lots from one on as the run goes on, with the least number of rows."""
        found, rows = {first: 0}, [first]
        for belief in rows:
            for behind in self.rows(belief).values():
                if behind is not None and behind not in found:
                    found[behind] = found[belief] + 1
                    rows.append(behind)
        return found

    def must_know(self, first, question):
        lots = self.all_lots(first)
        good = {belief for belief in lots if self.word(belief, question) != "open"}
        is_more = True
        while is_more:
            more = {belief for belief in lots if belief not in good
                    and all(behind in good for behind in self.rows(belief).values())}
            good, is_more = good | more, bool(more)
        return first in good
