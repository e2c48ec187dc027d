"""The standing of a watched reader, worked out by its definition from a scene of the stage."""


def give_number(text):
    return int(text.split(" ")[1])


class Watch:
    """A scene, one reader of which is watched; events are done and told as labels."""

    def __init__(self, scene, number):
        self.scene = scene
        self.number = number
        self.design = scene.design
        self.script = scene.guests[number].script
        self.uses = sorted({tuple(text.split(" ")[1:]) for text in self.script.texts
                            if text.startswith("use")})
        self.tracked = {part for _, part in self.uses}
        self.has_grown = False
        self.has_waited = False

    def guest(self):
        return self.scene.guests[self.number]

    def held(self):
        guest, house = self.guest(), self.scene.house
        cells = [guest.cells[slot][0] for slot in sorted(guest.cells)]
        cells += [guest.marks[mark] for mark in sorted(guest.marks)]
        cells += [store[2] for store in guest.buffer if store[0] == "mark" and store[2] is not None]
        cells += [house.hung[store[1]] for store in house.buffer if store[0] == "put"]
        return list(dict.fromkeys(cells))

    def told(self, cell):
        if cell is None:
            return "none"
        held = self.held()
        return held.index(cell) if cell in held else "new"

    def of_update(self, cell):
        house = self.scene.house
        if house.script is None:
            return ()
        return tuple(sorted(part for part in self.tracked
                            if house.contents[cell][part] == (house.lives[cell], house.number)))

    def elder(self):
        enters = any("enter" in reader.texts for reader in self.design.readers)
        return enters and self.has_grown and (self.design.rooms[0] > 0 or not self.has_waited)

    def going(self):
        house = self.scene.house
        if house.script is None:
            return ("", 0, "none", (), (), False, self.elder())
        waiting = ()
        if house.buffer:
            store = house.buffer[0]
            last = house.script.texts[self.last_store()].split(" ")
            if last[0] == "over":
                waiting = tuple(last)
            elif store[0] == "write":
                waiting = ("write", self.told(store[1]), store[2])
            elif store[0] == "put":
                waiting = ("put", store[1], self.told(store[2]), self.of_update(store[2]))
            else:
                waiting = store
        written = () if house.hand is None else self.of_update(house.hand)
        barred = house.next_words() == ["wait"] and self.number in self.scene.keepers
        return (house.script.name, house.done, self.told(house.hand), written, waiting, barred,
                self.elder())

    def last_store(self):
        texts = self.scene.house.script.texts[:self.scene.house.done]
        return max(at for at, text in enumerate(texts)
                   if text.split(" ")[0] in ("write", "put", "over", "bump"))

    def place(self, cell):
        house = self.scene.house
        oldest = max([0] + [give_number(text) for kind in self.design.kinds for text in kind.texts
                            if text.startswith("give")])
        if cell == house.hand:
            return "hand"
        if cell in house.out:
            return "out"
        for one, age in house.pile:
            if one == cell:
                return min(house.age - age, oldest)
        if cell in house.back:
            return "back"
        assert cell in [house.seen_in(slot) for slot in self.design.slots]
        return "hung"

    def rest(self, counter, number):
        size = dict(self.design.rounds)[counter]
        return number % (2 if size is None else size)

    def age_word(self, age):
        return "none" if age is None else "now" if age == self.scene.house.age else "past"

    def seen(self):
        guest = self.guest()
        stores = tuple(("age", self.age_word(store[1])) if store[0] == "age"
                       else ("mark", store[1], self.told(store[2])) for store in guest.buffer)
        marks = tuple((mark, self.told(guest.marks[mark])) for mark in sorted(guest.marks))
        return (self.age_word(guest.shown), stores, marks)

    def used_last(self):
        return {(slot, part): content for slot, part, content in self.guest().used}

    def coming_pairs(self):
        return {tuple(text.split(" ")[1:]) for text in self.script.texts[self.guest().done:]
                if text.startswith("use")}

    def now(self, slot, part):
        house, guest = self.scene.house, self.guest()
        cell = guest.cells[slot][0] if slot in guest.cells else house.hung[slot]
        return house.contents[cell][part]

    def word(self):
        used = self.guest().used
        if self.guest().is_spoilt:
            return "spoilt"
        pairs = {(slot, part) for slot, part, _ in used}
        return "torn" if len(pairs) < len(set(used)) else "fine"

    def at_moment(self, moment, slot, part):
        return moment[self.design.slots.index(slot)][self.design.parts.index(part)]

    def past(self):
        if self.word() != "fine":
            return False
        used = self.used_last()
        return any(all(self.at_moment(moment, slot, part) == used[slot, part]
                       for slot, part in used)
                   and all(self.at_moment(moment, slot, part) == self.now(slot, part)
                           for slot, part in self.coming_pairs())
                   for moment in self.scene.house.moments)

    def touched(self):
        house = self.scene.house
        if self.script.word != "again":
            return ()
        return tuple((slot, part) for slot, part in self.uses
                     if house.contents[house.hung[slot]][part]
                     != self.at_moment(house.moments[-1], slot, part))

    def reads(self):
        house, guest = self.scene.house, self.guest()
        used = self.used_last()
        rows = []
        for slot in sorted(guest.cells):
            cell, stamp, life = guest.cells[slot]
            state = "anew" if house.lives[cell] != life else "over" if house.ended[life] else "living"
            size = dict(self.design.wide).get(slot)
            turns = 0 if size is None else (house.stamps[slot] - stamp) % size
            kept = tuple(sorted(part for one, part in used if one == slot and self.word() == "fine"
                                and house.contents[cell][part] == used[one, part]))
            rows.append((slot, self.told(cell), state, turns, kept))
        return tuple(rows)

    def looks_and_answers(self):
        guest, house = self.guest(), self.scene.house
        looks, answers = {}, {}
        for at, text in enumerate(self.script.texts):
            words = text.split(" ")
            if words[0] not in ("same", "even"):
                continue
            steps = [int(word) for word in words[1:]]
            counter = self.script.texts[steps[0]].split(" ")[1]
            if words[0] == "same" and steps[0] < guest.done <= steps[1]:
                number = guest.counted[steps[0]]
                looks[steps[0]] = (self.rest(counter, number), house.counts[counter] != number)
            if steps[-1] < guest.done <= at:
                answers[at] = self.answer(words[0], counter, [guest.counted[s] for s in steps])
        return (tuple((at, *looks[at]) for at in sorted(looks)),
                tuple((at, answers[at]) for at in sorted(answers)))

    def answer(self, word, counter, numbers):
        size = dict(self.design.rounds)[counter]
        rests = [number if size is None else number % size for number in numbers]
        if word == "even":
            return "yes" if rests[0] % 2 == 0 else "no"
        if rests[0] != rests[1]:
            return "no"
        return "yes" if numbers[0] == numbers[1] else "fooled"

    def standing(self):
        house = self.scene.house
        slots = tuple((self.told(house.hung[slot]), self.of_update(house.hung[slot]))
                      for slot in self.design.slots)
        counts = tuple(self.rest(counter, house.counts[counter]) for counter in self.design.counters)
        looks, answers = self.looks_and_answers()
        run = (self.guest().done, self.reads(), looks, answers, self.past(), self.word(),
               self.touched())
        return (self.going(), tuple(self.place(cell) for cell in self.held()), slots, counts,
                self.seen(), run)

    def is_gone(self):
        house, guest = self.scene.house, self.guest()
        coming = {slot for slot, _ in self.coming_pairs()}
        for slot, (cell, _, life) in guest.cells.items():
            if slot in coming and (house.hung[slot] != cell or house.lives[cell] != life):
                return True
        used = self.used_last()
        if used and self.word() != "fine":
            return True
        return any(house.contents[house.hung[slot]][part] != used[slot, part]
                   for slot, part in used)

    def do(self, words):
        """Do an event; the quadruple that ought to be among what comes next, or None."""
        house, guest = self.scene.house, self.guest()
        due = self.due(words)
        age, held, is_past = house.age, self.held(), self.age_word(guest.shown) == "past"
        step = house.next_words()
        number, tale = house.number, []
        runs, tries = len(self.scene.runs), guest.done
        own_word = guest.words()[0]
        harms = tuple(harm for harm in self.scene.do(words) if harm != "back")
        was_over = house.script is None and words[0] in ("step", "flush")
        if words[0] in ("step",) and step[0] in ("move", "try") and house.age > age:
            self.has_grown, self.has_waited = True, False
        if words[0] == "step" and step[0] == "wait":
            self.has_waited = True
        if words[0] in ("next", "drain") and words[1] != self.number or words[0] == "start":
            return None
        if was_over:
            tale = ["over"] + (["gone"] if self.is_gone() else [])
        standing = self.standing
        if words[0] == "drain":
            return (("own", "drain"), standing(), (), ())
        if words[0] == "next":
            tale = [own_word]
            if len(self.scene.runs) > runs:
                tale.append("rejected" if self.scene.runs[-1][1] == "rejected" else "accepted")
                return (("own", "next"), None, harms, tuple(tale))
            if guest.done != tries + 1:
                tale.append("again")
            return (("own", "next"), standing(), harms, tuple(tale))
        if words[0] == "begin":
            return (("update", f"begin {words[1]}"), standing(), (), ())
        if words[0] == "flush":
            return (("update", "flush"), standing(), (), tuple(tale))
        label = ("update", "step")
        if step[0] == "take" and len(words) == 2 and words[1] in held:
            label = ("update", "back", held.index(words[1]))
        if step[0] == "try" and house.age == age and not is_past:
            label = ("kept",)
        if step[0] == "give":
            spared = tuple(sorted(held.index(cell) for cell in due
                                  if cell in [one for one, _ in house.pile]))
            label = ("spared", spared) if spared else label
        return (label, standing(), (), tuple(tale))

    def due(self, words):
        """The held cells that a step give would give back, if only this reader marked some."""
        house = self.scene.house
        if words[0] != "step" or house.next_words()[0] != "give":
            return []
        step = house.next_words()
        marked = self.guest().marks.values() if len(step) == 3 else []
        held = self.held()
        return [cell for cell, age in house.pile
                if house.age - age >= int(step[1]) and cell in held and cell not in marked]
