"""Where fences are needed: least lots of places, and papers for them."""

from unfooled.buffers import places
from unfooled.harmless import check_harms, clears_all, harm_met, is_telling, some_story
from unfooled.lots import is_within, least_lots, meeting_lots, without_things
from unfooled.papers import certificate, certifies
from unfooled.words import is_row_of


def fenced(design, lot):
    # Behind one another from the last step on, so that numbers of steps ahead stay.
    for side, name, at in sorted(lot, reverse=True):
        if side == "kind":
            design = design.with_kind(design.kind(name).with_more(at, "fence"))
        else:
            design = design.with_reader(design.reader(name).with_more(at, "fence"))
    return design


def is_clear(design, harms):
    check_harms(harms)
    return clears_all(design, harms)


def is_fenced(design, harms, lot):
    check_harms(harms)
    return clears_all(fenced(design, lot), harms)


class Fencing:
    """A design with fences at lots of places; for each reader it is kept what was found."""

    def __init__(self, design, harms):
        self.design = design
        self.harms = harms
        self.places = places(design)
        # For each reader's name the lots with which it meets no harm, and those with which it does.
        self.calm = {reader.name: [] for reader in design.readers}
        self.harmed = {reader.name: [] for reader in design.readers}

    def is_enough(self, lot):
        for reader in self.design.readers:
            if not self.is_calm(reader.name, lot):
                return False
        return True

    def is_calm(self, name, lot):
        """Whether a reader meets none of the harms; fences in other readers change nothing for it,
        and more fences never harm."""
        own = tuple([place for place in lot if place[0] == "kind" or place[1] == name])
        if any([is_within(other, own) for other in self.calm[name]]):
            return True
        if any([is_within(own, other) for other in self.harmed[name]]):
            return False
        design = fenced(self.design, own)
        is_calm = harm_met(design, design.reader(name), self.harms) is None
        if is_calm:
            self.calm[name].append(own)
        else:
            self.harmed[name].append(own)
        return is_calm


def lots_enough(design, harms):
    """The least lots of places with which the design is clear."""
    fencing = Fencing(design, harms)
    if not fencing.is_enough(fencing.places):
        return ()
    return least_lots(fencing.places, lambda lot: fencing.is_enough(lot))


def least_fences(design, harms):
    check_harms(harms)
    return lots_enough(design, harms)


def fence_cuts(design, harms):
    check_harms(harms)
    return meeting_lots(places(design), lots_enough(design, harms))


def names_and_harms(design, harms):
    """All pairs (reader's name, harm), ascending."""
    return [(name, harm) for name in sorted([reader.name for reader in design.readers]) for harm in harms]


def fence_paper(design, harms, lot):
    check_harms(harms)
    whole = fenced(design, lot)
    if not clears_all(whole, harms):
        return None
    stories = []
    for place in lot:
        told = some_story(fenced(design, without_things(lot, (place,))), harms)
        if told is None:
            return None
        stories.append((place, *told))
    proofs = [(name, harm, certificate(whole, name, harm)) for name, harm in names_and_harms(design, harms)]
    return tuple(proofs), tuple(stories)


def proofs_hold(design, harms, value):
    """Whether any value is the first half of a fence paper for a fenced design."""
    asked = names_and_harms(design, harms)
    if not is_row_of(value, len(asked)):
        return False
    for told, (name, harm) in zip(value, asked):
        if not is_row_of(told, 3) or repr(told[:2]) != repr((name, harm)):
            return False
        if not certifies(design, name, harm, told[2]):
            return False
    return True


def stories_hold(design, harms, lot, value):
    """Whether any value is the second half of a fence paper for a lot."""
    if not is_row_of(value, len(lot)):
        return False
    for told, place in zip(value, lot):
        if not is_row_of(told, 4) or repr(told[0]) != repr(place):
            return False
        rest = fenced(design, without_things(lot, (place,)))
        if not is_telling(rest, harms, told[1], told[2], told[3]):
            return False
    return True


def fence_paper_holds(design, harms, lot, value):
    check_harms(harms)
    if not is_row_of(value, 2):
        return False
    return stories_hold(design, harms, lot, value[1]) and proofs_hold(fenced(design, lot), harms, value[0])
