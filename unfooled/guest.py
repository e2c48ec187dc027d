"""One reader on the stage: what it shows, what lies in its buffer, and its run."""

from unfooled.readers import COMPARING, STORES, TELLING


class Guest:
    """A reader in a house; it is at rest as long as no step of its run is done."""

    def __init__(self, script, room):
        self.script = script
        self.room = room
        self.done = 0
        self.shown = None
        self.marks = {}
        self.buffer = []
        self.begin_try(0)

    def begin_try(self, runs):
        """Forget what was read; `runs` is how many runs are over ahead of the first step."""
        self.done = 0
        self.ahead = runs
        # How many updates were over at the last telling step, None ahead of the first one.
        self.over = None
        self.cells = {}
        self.counted = {}
        self.used = []
        self.is_spoilt = False

    def words(self):
        return self.script.texts[self.done].split(" ")

    def may_go_on(self):
        word = self.words()[0]
        if word in STORES:
            return self.room == 0 or len(self.buffer) < self.room
        return word != "fence" or self.buffer == []

    def tell(self, words, house):
        """Show something, at once or later; whether an age was told anew by it."""
        if words[0] in ("enter", "leave"):
            told = ("age", house.age if words[0] == "enter" else None)
        else:
            told = ("mark", words[1], self.cells[words[2]][0] if words[0] == "mark" else None)
        if self.room == 0:
            return self.show(told)
        self.buffer.append(told)
        return False

    def drain(self):
        return self.show(self.buffer.pop(0))

    def show(self, told):
        if told[0] == "age":
            self.shown = told[1]
        elif told[2] is None:
            self.marks.pop(told[1], None)
        else:
            self.marks[told[1]] = told[2]
        return told[0] == "age"

    def look_around(self, words, house):
        """Do a step that is no store: what a check says (True for others), and the harms."""
        if words[0] in TELLING:
            self.over = house.number_over()
        if words[0] == "read":
            cell = house.hung[words[1]]
            self.cells[words[1]] = (cell, house.stamps.get(words[1], 0), house.lives[cell])
        if words[0] == "num":
            self.counted[self.done] = house.counts[words[1]]
        if words[0] == "use":
            return True, self.use(words, house)
        if words[0] == "look":
            return self.look(words[1], house)
        if words[0] in COMPARING:
            return self.compare([int(word) for word in words[1:]], house)
        return True, []

    def use(self, words, house):
        cell, _, life = self.cells[words[1]]
        self.used.append((words[1], words[2], house.contents[cell][words[2]]))
        if not house.ended[life]:
            return []
        self.is_spoilt = True
        return ["used"]

    def look(self, slot, house):
        cell, stamp, life = self.cells[slot]
        turns = house.stamps.get(slot, 0) - stamp
        size = dict(house.design.wide).get(slot, 1)
        if house.hung[slot] != cell or turns % size != 0:
            return False, []
        return True, ["fooled"] if house.lives[cell] != life else []

    def compare(self, steps, house):
        counter = self.script.texts[steps[0]].split(" ")[1]
        size = dict(house.design.rounds)[counter]
        seen = [self.counted[step] for step in steps]
        rests = [number if size is None else number % size for number in seen]
        if len(steps) == 1:
            return rests[0] % 2 == 0, []
        return rests[0] == rests[1], ["fooled"] if rests[0] == rests[1] and seen[0] != seen[1] else []
