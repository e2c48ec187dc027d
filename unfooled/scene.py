"""The scene: a house and its readers, events done one by one, runs and harms kept."""

from unfooled.guest import Guest
from unfooled.house import House
from unfooled.readers import STORES
from unfooled.words import is_digits

PLAIN_EVENTS = ("step", "flush")


def event_words(design, event):
    """The words of an event (numbers as integers), or None if it has no form of an event."""
    if not isinstance(event, str):
        return None
    words = event.split(" ")
    if words[0] in PLAIN_EVENTS and len(words) == 1:
        return words
    if len(words) != 2:
        return None
    if words[0] == "start" and words[1] in [reader.name for reader in design.readers]:
        return words
    if words[0] == "begin" and words[1] in [kind.name for kind in design.kinds]:
        return words
    if words[0] in ("next", "drain", "step") and is_digits(words[1]):
        return [words[0], int(words[1])]
    return None


def fitting(used, moments, design):
    """The numbers of the moments that have all contents that were used."""
    slots = {slot: at for at, slot in enumerate(design.slots)}
    parts = {part: at for at, part in enumerate(design.parts)}
    return [at for at, moment in enumerate(moments)
            if all([moment[slots[slot]][parts[part]] == content for slot, part, content in used])]


class Scene:
    """A house with its readers behind some events."""

    def __init__(self, design):
        self.design = design
        self.house = House(design, design.rooms[1])
        self.guests = []
        self.runs = []
        # For each run: how many runs were over ahead of its first step, how many updates at its
        # last step, and at its last telling step (None if there was none).
        self.spans = []
        self.met = []
        self.many = 0
        # The readers who showed an age as a wait became the next step, and still keep it.
        self.keepers = []

    def ages(self):
        return [guest.shown for guest in self.guests if guest.shown is not None]

    def marked(self):
        return [cell for guest in self.guests for cell in guest.marks.values()]

    def may(self, words):
        """Whether an event, told by its words, is possible now."""
        if words[0] == "start":
            return True
        if words[0] == "begin":
            return self.house.script is None
        if words[0] == "flush":
            return self.house.buffer != []
        if words[0] == "step":
            return self.may_step(words)
        if words[1] >= len(self.guests):
            return False
        guest = self.guests[words[1]]
        return guest.may_go_on() if words[0] == "next" else guest.buffer != []

    def may_step(self, words):
        if len(words) == 2:
            return self.house.may_take(words[1])
        if self.house.next_words() == ["wait"]:
            return self.keepers == []
        return self.house.may_step(self.ages())

    def do(self, words):
        """Do a possible event; the lot of the harms that it meets."""
        harms = []
        if words[0] == "start":
            self.guests.append(Guest(self.design.reader(words[1]), self.design.rooms[0]))
        elif words[0] == "begin":
            self.house.begin(self.design.kind(words[1]))
            self.see_keepers()
        elif words[0] == "flush":
            self.house.flush()
        elif words[0] == "step":
            self.house.step(words[1] if len(words) == 2 else None, self.ages(), self.marked())
            self.see_keepers()
        elif words[0] == "drain":
            if self.guests[words[1]].drain():
                self.free_keeper(words[1])
        else:
            harms = sorted(self.go_on(words[1]))
        self.met = self.met + [(self.many, harm) for harm in harms]
        self.many = self.many + 1
        return tuple(harms)

    def see_keepers(self):
        self.keepers = []
        if self.house.next_words() == ["wait"]:
            self.keepers = [at for at, guest in enumerate(self.guests) if guest.shown is not None]

    def free_keeper(self, number):
        self.keepers = [at for at in self.keepers if at != number]

    def go_on(self, number):
        """The next step of a reader; the harms that it meets."""
        guest = self.guests[number]
        if guest.done == 0:
            guest.begin_try(len(self.runs))
        words = guest.words()
        says, harms = True, []
        if words[0] in STORES:
            if guest.tell(words, self.house):
                self.free_keeper(number)
        else:
            says, harms = guest.look_around(words, self.house)
        guest.done = guest.done + 1
        if not says:
            self.reject(number)
        elif guest.done == len(guest.script):
            harms = harms + self.accept(number)
        return harms

    def end_run(self, guest, run):
        self.runs.append(run)
        self.spans.append((guest.ahead, self.house.number_over(), guest.over))

    def reject(self, number):
        guest = self.guests[number]
        if guest.script.word == "once":
            self.end_run(guest, (number, "rejected", tuple(guest.used), None))
        guest.begin_try(len(self.runs))

    def accept(self, number):
        guest = self.guests[number]
        used = tuple(guest.used)
        ahead = guest.ahead
        if guest.is_spoilt:
            self.end_run(guest, (number, "spoilt", used, None))
            guest.begin_try(len(self.runs))
            return []
        fits = fitting(used, self.house.all_moments(), self.design)
        told = (fits[0], fits[-1]) if fits else None
        self.end_run(guest, (number, "accepted", used, told))
        guest.begin_try(len(self.runs))
        if told is None:
            return ["torn"]
        if told[0] > self.house.number_over():
            return ["early"]
        goes_back = any([run[3] is not None and run[3][0] > told[1] for run in self.runs[:ahead]])
        return ["back"] if goes_back else []
