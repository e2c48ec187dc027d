"""What the scripts of a design tell ahead, once for all standings of one watched reader."""

from unfooled.readers import COMPARING


def told_word(word):
    return int(word) if word.isdigit() else word


def steps_of(script):
    """The steps of a script as tuples of words, their numbers as integers."""
    return tuple([tuple([told_word(word) for word in text.split(" ")]) for text in script.texts])


def without_uses(steps):
    """The steps with others, which do nothing, in the place of each use."""
    return tuple([("rest",) if words[0] == "use" else words for words in steps])


def pairs_used(steps):
    """The lot of the pairs (slot, part) of the steps use."""
    return tuple(sorted(set([words[1:] for words in steps if words[0] == "use"])))


def slots_marked(readers):
    """The slots of which some reader has a step mark."""
    return {text.split(" ")[2]: True for reader in readers for text in reader.texts
            if text.startswith("mark ")}


def some_enters(readers):
    return any(["enter" in reader.texts for reader in readers])


def oldest_given(kinds):
    """The greatest number in the steps give."""
    return max([0, *[int(text.split(" ")[1]) for kind in kinds for text in kind.texts
                     if text.startswith("give ")]])


def used_by_slot(pairs):
    """For each slot the lot of the parts that an ascending row of pairs (slot, part) names."""
    found = {}
    for slot, part in pairs:
        found[slot] = (*found.get(slot, ()), part)
    return found


class Plan:
    """A watched reader beside the updates of a design.

    `more` are further pairs (slot, part) of which is told whether they are touched (for those who
    come later); `is_again` is whether the reader begins anew when it is rejected; with `is_bare`
    its uses are left aside: what it sees of the house does not hang on them.
    """

    def __init__(self, design, reader, more, is_again, is_bare=False):
        self.slots = design.slots
        self.places = {slot: at for at, slot in enumerate(design.slots)}
        self.counters = design.counters
        self.sizes = dict(design.rounds)
        # The rests of the counters that standings tell; whether it counts that they were turned.
        self.rests = {name: 2 if size is None else size for name, size in design.rounds}
        self.flagged = {name: True for name in self.rests}
        self.wide = dict(design.wide)
        # Standings tell one store at most; with a greater room it is used as if it were 1.
        self.has_buffer = design.rooms[1] > 0
        self.room = design.rooms[0]
        self.is_any = design.reuse == "any"
        self.enters = some_enters(design.readers)
        self.marked_slots = slots_marked(design.readers)
        self.oldest = oldest_given(design.kinds)
        self.steps = without_uses(steps_of(reader)) if is_bare else steps_of(reader)
        self.is_again = is_again
        self.pairs = pairs_used(self.steps)
        self.touchable = {pair: True for pair in [*more, *(self.pairs if is_again else ())]}
        self.tracked = {part: True for _, part in [*self.pairs, *more]}
        self.pairs_in = {slot: [(slot, part) for part in self.tracked] for slot in self.slots}
        self.read_updates(design.kinds)
        self.look_ahead()

    def read_updates(self, kinds):
        """The scripts of the kinds; behind its last step a script has an empty one."""
        self.scripts = {kind.name: (*steps_of(kind), ()) for kind in kinds}
        self.waits = {name: [words == ("wait",) for words in steps] for name, steps in self.scripts.items()}
        self.begins = [(name, ("update", f"begin {name}"), self.waits[name][0]) for name in self.scripts]

    def leave_aside(self, kinds, is_bare):
        """Leave aside what this reader cannot see: for standings that are told to nobody. With
        `is_bare` it is one to it whether a check is fooled."""
        counted = {words[1]: True for words in self.steps if words[0] == "num"}
        looked = {words[1]: True for words in self.steps if words[0] == "look"}
        halved = {self.steps[words[1]][1]: True for words in self.steps if words[0] == "even"}
        for name, size in self.sizes.items():
            if name not in counted or size is None and name not in halved:
                self.rests[name] = 1
            if is_bare and size is not None:
                self.flagged.pop(name)
        self.wide = {slot: size for slot, size in self.wide.items() if slot in looked}
        # Who shows an elder age counts only where some update tries.
        self.enters = self.enters and any(["try" in kind.texts for kind in kinds])

    def look_ahead(self):
        """For each number of steps done: what was used, what is to come, what is compared."""
        steps = self.steps
        stands = range(len(steps) + 1)
        self.used = [used_by_slot(pairs_used(steps[:at])) for at in stands]
        self.to_come = [{pair: True for pair in pairs_used(steps[at:])} for at in stands]
        self.slots_coming = [{slot: True for slot, _ in coming} for coming in self.to_come]
        # What is still to be used of slots that are still to be read.
        reads = {words[1]: at for at, words in enumerate(steps) if words[0] == "read"}
        self.unread = [{pair: True for pair in self.to_come[at] if reads[pair[0]] >= at} for at in stands]
        self.slots_unread = [{slot: True for slot, _ in unread} for unread in self.unread]
        checks = [words for words in steps if words[0] == "same"]
        self.compared = [{words[1]: True for words in checks if words[1] < at <= words[2]}
                         for at in stands]
        # For each step num the checks that can be answered behind it.
        self.answered = [[(at, words) for at, words in enumerate(steps)
                          if words[0] in COMPARING and words[-1] == number]
                         for number in range(len(steps))]
