"""The house: cells, slots, counters, the pile, and the update in progress, event by event."""

from unfooled.kinds import STORES


class House:
    """All but the readers, as it is behind some events; `room` is that of the updates."""

    def __init__(self, design, room):
        cells = range(len(design.slots))
        self.design = design
        self.room = room
        self.hung = {slot: at for at, slot in enumerate(design.slots)}
        self.lives = list(cells)
        self.ended = [False for _ in cells]
        self.contents = [{part: (cell, 0) for part in design.parts} for cell in cells]
        self.stamps = {slot: 0 for slot, _ in design.wide}
        self.counts = {counter: 0 for counter in design.counters}
        self.age = 0
        self.hand = None
        self.out = []
        self.pile = []
        self.back = []
        self.script = None
        self.done = 0
        self.number = 0
        self.buffer = []
        self.moments = [self.view()]

    def view(self):
        """What the slots' cells have in their parts, in memory."""
        return tuple([self.parts_of(self.contents[self.hung[slot]]) for slot in self.design.slots])

    def parts_of(self, contents):
        return tuple([contents[part] for part in self.design.parts])

    def seen_in(self, slot):
        """The cell that hangs in the slot by the update's own view."""
        cell = self.hung[slot]
        for store in self.buffer:
            if store[0] == "put" and store[1] == slot:
                cell = store[2]
        return cell

    def next_words(self):
        """The words of the next step of the update in progress, or None."""
        if self.script is None or self.done == len(self.script):
            return None
        return self.script.texts[self.done].split(" ")

    def begin(self, kind):
        self.script = kind
        self.done = 0
        self.number = self.number + 1

    def may_take(self, cell):
        words = self.next_words()
        return (words == ["take"] and self.design.reuse == "any" and cell in self.back)

    def may_step(self, ages):
        """Whether the next step is possible beside readers who show these ages (waits aside)."""
        words = self.next_words()
        if words is None:
            return False
        if words[0] in STORES:
            return self.room == 0 or len(self.buffer) < self.room
        if words[0] == "fence":
            return self.buffer == []
        return words[0] != "move" or self.all_are_new(ages)

    def all_are_new(self, ages):
        return all([age == self.age for age in ages])

    def step(self, cell, ages, marked):
        """Do the next step; `cell` is what a take is to take, None for a new one."""
        words = self.next_words()
        if words[0] in STORES:
            self.store(words)
        elif words[0] == "take":
            self.take(cell)
        elif words[0] == "aside":
            self.pile = self.pile + [(one, self.age) for one in self.out]
            self.out = []
        elif words[0] in ("move", "try"):
            self.age = self.age + (1 if self.all_are_new(ages) else 0)
        elif words[0] == "give":
            self.give(int(words[1]), marked if len(words) == 3 else [])
        self.done = self.done + 1
        self.end_if_done()

    def take(self, cell):
        if cell is None:
            cell = len(self.lives)
            self.lives.append(0)
            self.contents.append({})
        else:
            self.back = [one for one in self.back if one != cell]
        life = len(self.ended)
        self.ended.append(False)
        self.lives[cell] = life
        self.contents[cell] = {part: (life, 0) for part in self.design.parts}
        self.hand = cell

    def store(self, words):
        if words[0] == "write":
            self.lay(("write", self.hand, words[1], (self.lives[self.hand], self.number)))
        elif words[0] == "over":
            cell = self.seen_in(words[1])
            self.lay(("write", cell, words[2], (self.lives[cell], self.number)))
        elif words[0] == "put":
            self.out.append(self.seen_in(words[1]))
            self.lay(("put", words[1], self.hand))
            self.hand = None
        else:
            self.lay(("bump", words[1]))

    def lay(self, store):
        if self.room == 0:
            self.take_effect(store)
        else:
            self.buffer.append(store)

    def take_effect(self, store):
        if store[0] == "write":
            self.contents[store[1]][store[2]] = store[3]
        elif store[0] == "put":
            self.hung[store[1]] = store[2]
            if store[1] in self.stamps:
                self.stamps[store[1]] = self.stamps[store[1]] + 1
        else:
            self.counts[store[1]] = self.counts[store[1]] + 1

    def flush(self):
        self.take_effect(self.buffer.pop(0))
        self.end_if_done()

    def give(self, many, marked):
        given = [cell for cell, age in self.pile if self.age - age >= many and cell not in marked]
        for cell in given:
            self.ended[self.lives[cell]] = True
        self.pile = [(cell, age) for cell, age in self.pile if cell not in given]
        self.back = sorted([*self.back, *given])

    def end_if_done(self):
        if self.done == len(self.script) and self.buffer == []:
            self.script = None
            self.done = 0
            self.moments.append(self.view())

    def number_over(self):
        """How many updates are over."""
        return len(self.moments) - 1

    def all_moments(self):
        """The moments so far, and the one of the update in progress."""
        return list(self.moments) if self.script is None else [*self.moments, self.coming()]

    def coming(self):
        """The moment to which the update in progress leads, if it goes on alone.

        Contents of cells that it is yet to take are None: nobody can have used them.
        """
        contents = [dict(row) for row in self.contents]
        hung = dict(self.hung)
        for store in self.buffer:
            if store[0] == "write":
                contents[store[1]][store[2]] = store[3]
            if store[0] == "put":
                hung[store[1]] = store[2]
        hand = self.hand
        for text in self.script.texts[self.done:]:
            words = text.split(" ")
            if words[0] == "take":
                hand = len(contents)
                contents.append({part: None for part in self.design.parts})
            if words[0] == "put":
                hung[words[1]] = hand
            if words[0] in ("write", "over"):
                cell = hand if words[0] == "write" else hung[words[1]]
                if cell < len(self.lives):
                    contents[cell][words[-1]] = (self.lives[cell], self.number)
        return tuple([self.parts_of(contents[hung[slot]]) for slot in self.design.slots])

    def waiting_texts(self):
        found = []
        for store in self.buffer:
            if store[0] == "put":
                found.append(f"put {store[1]} {store[2]}")
            elif store[0] == "write":
                found.append(f"write {store[1]} {store[2]}")
            else:
                found.append(f"bump {store[1]}")
        return tuple(found)
