"""Roads of standings told as histories of the stage, with the helpers that they need.

A helper is one more reader: one who shows an elder age and keeps a try, or who marks a cell
and spares it. Whoever is not needed goes on, until it keeps nothing from being done.
"""

from unfooled.plan import slots_marked
from unfooled.scene import Scene, event_words

# More events than a reader needs to come round to its next step enter, leave or mark.
ENOUGH = 200


def next_step(design, standing):
    """The words of the next step of the update in progress in a standing, or none."""
    name, done = standing[0][:2]
    if name == "" or done == len(design.kind(name)):
        return []
    return design.kind(name).texts[done].split(" ")


def increases_age(design, standing, label):
    return (label == ("update", "step") and standing[4][0] != "past"
            and next_step(design, standing) in (["move"], ["try"]))


def is_leaving(design, standing, cell, slot):
    """Whether a held cell hangs in memory in a slot for which a put waits."""
    waiting = standing[0][4]
    return (waiting[:2] == ("put", slot)
            and standing[2][design.slots.index(slot)][0] == cell)


def given_back(design, standing, label):
    """The held cells that a step give must give back, for the road to go on as told."""
    words = next_step(design, standing)
    if label[0] not in ("update", "spared") or words[:1] != ["give"]:
        return []
    spared = label[1] if label[0] == "spared" else ()
    own = [cell for _, cell in standing[4][2]] if len(words) == 3 else []
    return [cell for cell, place in enumerate(standing[1])
            if not isinstance(place, str) and place >= int(words[1])
            and cell not in spared and cell not in own]


class Teller:
    """A scene that is played along legs of a road, and the events so far."""

    def __init__(self, design, legs):
        self.design = design
        self.legs = legs
        self.rows = [(at, standing, label) for at, (_, way) in enumerate(legs)
                     for standing, label in way]
        self.scene = Scene(design)
        self.told = []
        self.watched = -1
        # For each row the helpers to be made ready ahead of it: (word, slot, row of need).
        self.wanted = [[] for _ in self.rows]
        # For each row the numbers of the helpers that are needed there.
        self.helpers = [[] for _ in self.rows]
        # For each row how many events were told ahead of it.
        self.marks = []

    def want_helpers(self):
        for at, (_, standing, label) in enumerate(self.rows):
            if label[0] == "kept":
                self.wanted[self.last_increase(at)].append(("enter", "", at))
            if label[0] == "spared":
                for cell in label[1]:
                    slot, ahead = self.place_to_mark(at, standing, cell)
                    self.wanted[ahead].append(("mark", slot, at))

    def last_increase(self, at):
        return max([row for row in range(at)
                    if increases_age(self.design, self.rows[row][1], self.rows[row][2])])

    def place_to_mark(self, at, standing, cell):
        """In which slot a helper can read a cell that it is to spare, and ahead of which row."""
        marked = slots_marked(self.design.readers)
        for slot in marked:
            if is_leaving(self.design, standing, cell, slot):
                return slot, at
        slot = [told[0] for told in standing[5][1]
                if told[0] in marked and told[1:3] == (cell, "living")][0]
        return slot, max([row for row in range(at) if self.reads_there(row, at, slot)])

    def reads_there(self, row, at, slot):
        """Whether in a row the reader that is watched in another row reads this slot."""
        leg, standing, label = self.rows[row]
        reader = self.design.reader(self.legs[leg][0])
        return (leg == self.rows[at][0] and label == ("own", "next")
                and reader.texts[standing[5][0]] == f"read {slot}")

    def do(self, text):
        self.scene.do(event_words(self.design, text))
        self.told.append(text)

    def start(self, name):
        self.do(f"start {name}")
        return len(self.scene.guests) - 1

    def advance(self, number):
        """Let a reader do the next thing that it can do."""
        if self.scene.guests[number].buffer != []:
            self.do(f"drain {number}")
        else:
            self.do(f"next {number}")

    def drain_all(self, number):
        while self.scene.guests[number].buffer != []:
            self.do(f"drain {number}")

    def make_ready(self, word, slot, at):
        """Start a helper, and let it come up to its step enter, or mark (enter is done)."""
        reader = self.helping_reader(word, slot)
        number = self.start(reader.name)
        for _ in range(ENOUGH):
            if self.is_ahead_of(number, word, slot):
                break
            self.advance(number)
        self.drain_all(number)
        if word == "enter":
            self.do(f"next {number}")
        self.helpers[at].append(number)

    def helping_reader(self, word, slot):
        for reader in self.design.readers:
            for text in reader.texts:
                if text == word or slot != "" and text.startswith("mark ") and text.endswith(f" {slot}"):
                    return reader
        return None

    def is_ahead_of(self, number, word, slot):
        words = self.scene.guests[number].words()
        return words[0] == word and (slot == "" or words[2] == slot)

    def use_helpers(self, at, label):
        for number in self.helpers[at]:
            if label[0] == "spared":
                self.do(f"next {number}")
            self.drain_all(number)

    def others(self):
        return [number for number in range(len(self.scene.guests)) if number != self.watched]

    def let_age(self):
        """Others who show an elder age go on until they show none, or the house's."""
        for number in self.others():
            for _ in range(ENOUGH):
                if self.scene.guests[number].shown in (None, self.scene.house.age):
                    break
                self.advance(number)

    def let_wait(self):
        """Others who keep the wait go on until they do not."""
        for number in self.others():
            for _ in range(ENOUGH):
                if number not in self.scene.keepers:
                    break
                self.advance(number)

    def let_give(self, cells):
        """Others who mark one of these cells go on until they do not."""
        for number in self.others():
            for _ in range(ENOUGH):
                marked = list(self.scene.guests[number].marks.values())
                if not any([cell in marked for cell in cells]):
                    break
                self.advance(number)

    def held_cells(self):
        """The cells that the watched reader holds, in the order of standings."""
        guest = self.scene.guests[self.watched]
        cells = [guest.cells[slot][0] for slot in sorted(guest.cells)]
        cells = cells + [guest.marks[mark] for mark in sorted(guest.marks)]
        cells = cells + [told[2] for told in guest.buffer if told[0] == "mark" and told[2] is not None]
        for store in self.scene.house.buffer:
            if store[0] == "put":
                cells.append(self.scene.house.hung[store[1]])
        return list({cell: True for cell in cells})

    def event(self, label):
        if label[0] == "own":
            return f"{label[1]} {self.watched}"
        if label[:2] == ("update", "back"):
            return f"step {self.held_cells()[label[2]]}"
        return label[1] if label[0] == "update" else "step"

    def tell_all(self):
        """The events by which the road is gone."""
        self.want_helpers()
        leg = -1
        for at, (number, standing, label) in enumerate(self.rows):
            if number != leg:
                leg = number
                self.watched = self.start(self.legs[leg][0])
            self.marks.append(len(self.told))
            for word, slot, row in self.wanted[at]:
                self.make_ready(word, slot, row)
            self.use_helpers(at, label)
            if increases_age(self.design, standing, label):
                self.let_age()
            if label == ("update", "step") and next_step(self.design, standing) == ["wait"]:
                self.let_wait()
            held = self.held_cells()
            self.let_give([held[cell] for cell in given_back(self.design, standing, label)])
            self.do(self.event(label))
        return tuple(self.told)


def history_of(design, legs):
    return Teller(design, legs).tell_all()


def history_with_marks(design, name, way):
    """The history of one watched reader, the first one that comes, and for each row of its way how
    many events are ahead of it; and of all at last."""
    if way == []:
        return (f"start {name}",), (1,)
    teller = Teller(design, [(name, way)])
    events = teller.tell_all()
    return events, (*teller.marks, len(events))
