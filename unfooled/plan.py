"""What the scripts of a design tell ahead, once for all standings of one watched reader."""

from unfooled.readers import COMPARING


def told_word(word):
    return int(word) if word.isdigit() else word


def steps_of(script):
    """The steps of a script as tuples of words, their numbers as integers."""
    return tuple([tuple([told_word(word) for word in text.split(" ")]) for text in script.texts])


def pairs_used(steps):
    """The lot of the pairs (slot, part) of the steps use."""
    found = {}
    for words in steps:
        if words[0] == "use":
            found[(words[1], words[2])] = True
    return tuple(sorted(found))


def slots_marked(readers):
    """The slots of which some reader has a step mark."""
    found = {}
    for reader in readers:
        for words in steps_of(reader):
            if words[0] == "mark":
                found[words[2]] = True
    return found


def some_enters(readers):
    return any(["enter" in reader.texts for reader in readers])


def oldest_given(kinds):
    """The greatest number in the steps give."""
    return max([0, *[words[1] for kind in kinds for words in steps_of(kind) if words[0] == "give"]])


def used_by_slot(pairs):
    """For each slot the lot of the parts that pairs (slot, part) name."""
    found = {}
    for slot, part in sorted(set(pairs)):
        found[slot] = (*found.get(slot, ()), part)
    return found


class Plan:
    """A watched reader, and what is to be told of the house; `more` are further pairs
    (slot, part) of which is told whether they are touched (for those who come later)."""

    def __init__(self, design, reader, more):
        self.slots = design.slots
        self.counters = design.counters
        self.sizes = dict(design.rounds)
        self.wide = dict(design.wide)
        # Standings tell one store at most; with a greater room it is used as if it were 1.
        self.has_buffer = design.rooms[1] > 0
        self.room = design.rooms[0]
        self.is_any = design.reuse == "any"
        self.scripts = {kind.name: steps_of(kind) for kind in design.kinds}
        self.enters = some_enters(design.readers)
        self.marked_slots = slots_marked(design.readers)
        self.oldest = oldest_given(design.kinds)
        self.steps = steps_of(reader)
        self.is_again = reader.word == "again"
        self.pairs = pairs_used(self.steps)
        self.touchable = tuple(sorted(set([*more, *(self.pairs if self.is_again else ())])))
        self.tracked = tuple(sorted(set([part for _, part in [*self.pairs, *more]])))
        self.look_ahead()

    def look_ahead(self):
        """For each number of steps done: what was used, what is to come, what is compared."""
        steps = self.steps
        stands = range(len(steps) + 1)
        self.used = [used_by_slot(list(pairs_used(steps[:at]))) for at in stands]
        self.to_come = [{pair: True for pair in pairs_used(steps[at:])} for at in stands]
        self.slots_coming = [{slot: True for slot, _ in pairs_used(steps[at:])} for at in stands]
        checks = [words for words in steps if words[0] == "same"]
        self.compared = [{words[1]: True for words in checks if words[1] < at <= words[2]}
                         for at in stands]
        # For each step num the checks that can be answered behind it.
        self.answered = [[(at, words) for at, words in enumerate(steps)
                          if words[0] in COMPARING and words[-1] == number]
                         for number in range(len(steps))]
