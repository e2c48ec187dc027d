"""A standing unfolded: the same things, with a number of its own for each cell."""

# Numbers of cells that are not held, behind those of the held ones.
FRESH = 900


class Sight:
    """What counts of the house and of the watched reader."""

    def __init__(self, plan, standing):
        going, places, slots, counts, seen, run = standing
        self.places = dict(enumerate(places))
        self.unfold_slots(plan, slots)
        self.unfold_going(going)
        self.counts = list(counts)
        self.shown = seen[0]
        self.stores = [(*store[:-1], unnamed(store[-1])) if store[0] == "mark" else store
                       for store in seen[1]]
        self.marks = dict(seen[2])
        self.at, reads, looks, answers, self.past, self.word, touched = run
        self.reads = {slot: told for slot, *told in reads}
        self.looks = {at: (rest, is_turned) for at, rest, is_turned in looks}
        self.answers = dict(answers)
        self.touched = {pair: True for pair in touched}

    def unfold_slots(self, plan, slots):
        self.hung = {}
        self.lots = {}
        for at, slot in enumerate(plan.slots):
            cell, self.lots[slot] = slots[at]
            self.hung[slot] = self.own(cell, FRESH + 2 + at, "hung")

    def unfold_going(self, going):
        self.going, self.done, hand, self.written, waiting, self.barred, self.elder = going
        self.hand = None if hand == "none" else self.own(hand, FRESH, "hand")
        self.buffer = []
        if waiting != ():
            if waiting[0] == "write":
                waiting = ("write", self.hand, waiting[2])
            if waiting[0] == "put":
                waiting = ("put", waiting[1], self.own(waiting[2], FRESH + 1, "hung"), waiting[3])
            self.buffer = [waiting]

    def own(self, cell, number, place):
        """The number of a cell that is told by its number, or as a new one."""
        if cell != "new":
            return cell
        self.places[number] = place
        return number

    def held(self, plan):
        """The held cells, each once, in their order."""
        found = {}
        for slot in plan.slots:
            if slot in self.reads:
                found[self.reads[slot][0]] = True
        for mark in sorted(self.marks):
            found[self.marks[mark]] = True
        for store in self.stores:
            if store[0] == "mark" and store[2] is not None:
                found[store[2]] = True
        for store in self.buffer:
            if store[0] == "put":
                found[self.hung[store[1]]] = True
        return list(found)

    def fold(self, plan):
        """The standing, as it is told."""
        held = self.held(plan)
        names = {cell: at for at, cell in enumerate(held)}
        names[None] = "none"
        going = (self.going, self.done, names.get(self.hand, "new"), self.written,
                 self.fold_buffer(names), self.barred, self.elder)
        slots = tuple([(names.get(self.hung[slot], "new"), self.lots[slot]) for slot in plan.slots])
        reads = tuple([(slot, names[self.reads[slot][0]], *self.reads[slot][1:])
                       for slot in plan.slots if slot in self.reads])
        looks = () if self.looks == {} else tuple([(at, *self.looks[at]) for at in sorted(self.looks)])
        answers = () if self.answers == {} else tuple(sorted(self.answers.items()))
        touched = () if self.touched == {} else tuple(sorted(self.touched))
        return (going, tuple([self.places[cell] for cell in held]), slots, tuple(self.counts),
                self.fold_seen(names),
                (self.at, reads, looks, answers, self.past, self.word, touched))

    def fold_seen(self, names):
        if self.stores == [] and self.marks == {}:
            return self.shown, (), ()
        stores = tuple([("mark", store[1], names[store[2]]) if store[0] == "mark" else store
                        for store in self.stores])
        marks = tuple([(mark, names[self.marks[mark]]) for mark in sorted(self.marks)])
        return self.shown, stores, marks

    def fold_buffer(self, names):
        if self.buffer == []:
            return ()
        store = self.buffer[0]
        if store[0] == "write":
            return ("write", names.get(store[1], "new"), store[2])
        if store[0] == "put":
            return ("put", store[1], names.get(store[2], "new"), store[3])
        return store


def unnamed(cell):
    return None if cell == "none" else cell


def first_standing(plan):
    """The standing at first."""
    slots = tuple([("new", ()) for _ in plan.slots])
    going = ("", 0, "none", (), (), False, False)
    run = (0, (), (), (), True, "fine", ())
    return going, (), slots, tuple([0 for _ in plan.counters]), ("none", (), ()), run
