"""Whole updates, one after the other, with nobody beside them."""

from unfooled.house import House


class Still:
    """A house behind whole updates."""

    def __init__(self, house):
        slots = house.design.slots
        self.hung = tuple([house.hung[slot] for slot in slots])
        self.lives = tuple([house.lives[cell] for cell in self.hung])
        self.contents = house.view()
        self.stamps = tuple([house.stamps[slot] for slot, _ in house.design.wide])
        self.counts = tuple([house.counts[counter] for counter in house.design.counters])
        self.age = house.age
        self.out = tuple(sorted(house.out))
        self.pile = tuple(sorted(house.pile))
        self.back = tuple(house.back)


def do_whole(house, kind):
    """Do all steps of an update; a take takes the least cell that is back."""
    house.begin(kind)
    while house.script is not None:
        takes_back = house.back != [] and house.may_take(house.back[0])
        house.step(house.back[0] if takes_back else None, [], [])


def after(design, names):
    kinds = [design.kind(name) for name in names]
    # With room 0 each store takes effect at once, whatever room the design has.
    house = House(design, 0)
    for kind in kinds:
        do_whole(house, kind)
    return Still(house)


def rows_apart(design, names, others):
    here = after(design, names)
    there = after(design, others)
    pairs = (("hung", here.hung, there.hung), ("lives", here.lives, there.lives),
             ("contents", here.contents, there.contents),
             ("stamps", here.stamps, there.stamps), ("counts", here.counts, there.counts),
             ("age", here.age, there.age), ("out", here.out, there.out),
             ("pile", here.pile, there.pile), ("back", here.back, there.back))
    for word, one, other in pairs:
        if one != other:
            return word
    return None
