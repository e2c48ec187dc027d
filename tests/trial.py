"""One reader on the stage up to a check, with the turns that are counted amid it."""

from unfooled.scene import Scene, event_words


class Trial:
    """A design's first reader and one of its checks; other looks are taken to say yes."""

    def __init__(self, design, at):
        self.design, self.at = design, at
        self.reader = design.readers[0]
        self.steps = [text.split(" ") for text in self.reader.texts]
        words = self.steps[at]
        self.is_look = words[0] == "look"
        self.first = self.steps.index(["read", words[1]]) if self.is_look else int(words[1])
        self.last = at if self.is_look else int(words[2])
        self.turning = "put " + words[1] if self.is_look else "bump " + self.steps[self.first][1]

    def begin(self):
        scene = Scene(self.design)
        scene.do(event_words(self.design, "start " + self.reader.name))
        return scene

    def events(self, scene):
        """What can come next, as long as all checks ahead say yes."""
        texts = ["step", "step"] + ["begin " + kind.name for kind in self.design.kinds]
        texts += [f"step {cell}" for cell in scene.house.back] * 2
        texts = [text for text in texts if scene.may(event_words(self.design, text))]
        guest = scene.guests[0]
        if guest.done < self.at and self.says_yes(scene):
            texts += ["next 0"] * 2
        return texts

    def says_yes(self, scene):
        """Whether all checks ahead that ask for the number of the next step will say yes."""
        guest, counts = scene.guests[0], scene.house.counts
        for words in self.steps[:self.at]:
            numbers = [int(word) for word in words[1:]] if words[0] in ("same", "even") else [-1]
            if numbers[-1] != guest.done:
                continue
            counter = self.steps[numbers[0]][1]
            seen = [guest.counted.get(number, counts[counter]) for number in numbers]
            rests = [number if self.size(counter) is None else number % self.size(counter) for number in seen]
            if (rests[0] % 2 if words[0] == "even" else rests[0] - rests[1]) != 0:
                return False
        return True

    def do(self, scene, text, turns):
        """Do an event; how many turns there were then."""
        guest, house = scene.guests[0], scene.house
        step = house.script.texts[house.done] if text.startswith("step") else ""
        if step == self.turning and self.first < guest.done <= self.last:
            turns += 1
        if text == "next 0" and self.steps[guest.done][0] == "look":
            guest.done += 1
        else:
            scene.do(event_words(self.design, text))
        return turns

    def comes_now(self, scene):
        """Whether the check comes next (for a look: and the cell hangs there anew)."""
        guest, house = scene.guests[0], scene.house
        if guest.done != self.at:
            return False
        if not self.is_look:
            return True
        cell, _, life = guest.cells[self.steps[self.at][1]]
        return house.hung[self.steps[self.at][1]] == cell and house.lives[cell] != life

    def chosen(self, rng, texts, lazy):
        own = [text for text in texts if text == "next 0"]
        others = [text for text in texts if text != "next 0"]
        return rng.choice(own if own and rng.random() < lazy else others or own)

    def walk(self, rng, many, seen=None):
        """The numbers of turns with which the check came next along a random way."""
        scene, turns, found = self.begin(), 0, set()
        lazy = rng.choice([0.05, 0.1, 0.2, 0.4, 0.7])
        for _ in range(many):
            texts = self.events(scene)
            if not texts:
                break
            turns = self.do(scene, self.chosen(rng, texts, lazy), turns)
            if seen is not None:
                seen(scene, turns)
            if self.comes_now(scene):
                found.add(turns)
        return found

    def size(self, counter):
        return dict(self.design.rounds)[counter]

    def stand(self, scene):
        """The stand by its definition, as long as no check ahead says no."""
        house, guest = scene.house, scene.guests[0]
        kind = "" if house.script is None else house.script.name
        barred = house.next_words() == ["wait"] and scene.keepers == [0]
        shown = "none" if guest.shown is None else "now" if guest.shown == house.age else "past"
        slot = self.steps[self.at][1] if self.is_look else None
        cell = guest.cells[slot][0] if slot in guest.cells else None
        marks = tuple(sorted(mark for mark in guest.marks if guest.marks[mark] == cell))
        return (kind, house.done, barred, guest.done, shown, marks if cell is not None else (),
                self.place(scene, slot, cell), self.tallies(scene))

    def place(self, scene, slot, cell):
        house = scene.house
        if cell is None:
            return ("none",)
        oldest = max([0] + [int(text.split(" ")[1]) for kind in self.design.kinds for text in kind.texts
                            if text.startswith("give")])
        for one, age in house.pile:
            if one == cell:
                return ("aside", min(oldest, house.age - age))
        for other in self.design.slots:
            if house.hung[other] == cell:
                return ("hung", other, house.lives[cell] != scene.guests[0].cells[slot][2])
        return ("hand",) if house.hand == cell else ("out",) if cell in house.out else ("back",)

    def tallies(self, scene):
        house, guest, found = scene.house, scene.guests[0], []
        for words in self.steps[:self.at]:
            if words[0] not in ("same", "even"):
                continue
            numbers = [int(word) for word in words[1:]]
            counter = self.steps[numbers[0]][1]
            size, now = self.size(counter), house.counts[counter]
            last = guest.counted.get(numbers[-1], now)
            if words[0] == "even":
                found.append(last % (size or 2))
            else:
                turns = last - guest.counted.get(numbers[0], last)
                found.append(min(turns, 1) if size is None else turns % size)
        return tuple(found)
