"""What updates can do next behind a standing.

A move is a quadruple (label, standing behind it or None, harms, words); `rest` is what a standing
tells beside the update in progress: (places, slots, counts, seen, run).
"""

from itertools import combinations

from unfooled.changing import (begin_life, change, end_lives, hang, is_gone, memory_is_good, touch,
                               turn)
from unfooled.numbering import renumbered

STEP = ("update", "step")
FLUSH = ("update", "flush")
KEPT = ("kept",)


def begin_moves(plan, standing):
    going, places, slots, counts, seen, run = standing
    elder = going[6]
    shows = seen[0] != "none"
    return [(label, ((name, 0, "none", (), (), is_wait and shows, elder), places, slots, counts, seen, run), (), ())
            for name, label, is_wait in plan.begins]


def stepped(plan, label, going, load, rest):
    """The move by a step; `load` is (hand, written, waiting, elder) behind it."""
    name = going[0]
    done = going[1] + 1
    hand, written, waiting, elder = load
    if waiting == () and plan.scripts[name][done] == ():
        return ended(plan, label, elder, rest)
    barred = plan.waits[name][done] and rest[3][0] != "none"
    return label, ((name, done, hand, written, waiting, barred, elder), *rest), (), ()


def ended(plan, label, elder, rest):
    """The move by which an update is over."""
    places, slots, counts, seen, run = rest
    at, reads, looks, answers, past, word, _ = run
    slots = tuple([(cell, ()) for cell, _ in slots])
    if word == "fine" and not past:
        past = memory_is_good(plan, slots, run)
    words = ("over", "gone") if is_gone(plan, slots, run) else ("over",)
    going = ("", 0, "none", (), (), False, elder)
    run = (at, reads, looks, answers, past, word, ())
    return label, (going, places, slots, counts, seen, run), (), words


def moved_on(plan, going, rest):
    """The move by a step that changes nothing of the update's own."""
    return stepped(plan, STEP, going, (going[2], going[3], going[4], going[6]), rest)


def effect(plan, hand, written, rest, store):
    """What is written of the cell in the hand, and the rest, as a store takes effect."""
    places, slots, counts, seen, run = rest
    if store[0] == "bump":
        counts, run = turn(plan, counts, run, store[1])
    elif store[0] == "put":
        slots, run = hang(plan, slots, run, store)
    elif store[-1] not in plan.tracked:
        return written, rest
    elif store[0] == "over":
        slots, run = over(plan, slots, run, store)
    elif store[2] not in written:
        # A second store of one update to one part brings the same content again.
        written = tuple(sorted([*written, store[2]]))
        if store[1] != "new":
            run = change(plan, slots, run, store[1], (store[2],))
    return written, (places, slots, counts, seen, run)


def over(plan, slots, run, store):
    """The slots and the run as a part of a hung cell is written in place."""
    _, slot, part = store
    place = plan.places[slot]
    cell, lot = slots[place]
    if part in lot:
        return slots, run
    if cell == "new":
        run = touch(plan, run, [(slot, part)])
    else:
        run = change(plan, slots, run, cell, (part,))
    lot = tuple(sorted([*lot, part]))
    return (*slots[:place], (cell, lot), *slots[place + 1:]), run


def store_moves(plan, standing, words):
    """A store is done: it takes effect, or lies in the buffer."""
    going, *rest = standing
    _, _, hand, written, waiting, _, elder = going
    if waiting != ():
        return []
    store = ("write", hand, words[1]) if words[0] == "write" else words
    if words[0] == "put":
        store = ("put", words[1], hand, written)
        rest = hung_by_own_view(plan, hand, words[1], rest)
        hand = "none"
        written = ()
    if plan.has_buffer:
        return [stepped(plan, STEP, going, (hand, written, store, elder), rest)]
    written, rest = effect(plan, hand, written, rest, store)
    return [stepped(plan, STEP, going, (hand, written, (), elder), rest)]


def hung_by_own_view(plan, hand, slot, rest):
    """The rest as the cell in the hand hangs in a slot, and what hung there is out."""
    places, slots, counts, seen, run = rest
    place = plan.places[slot]
    cell, lot = slots[place]
    if cell == "new" and plan.has_buffer:
        # As long as memory has it there, it is held.
        slots = (*slots[:place], (len(places), lot), *slots[place + 1:])
        places = (*places, "out")
    elif cell != "new":
        places = (*places[:cell], "out", *places[cell + 1:])
    if hand != "new":
        places = (*places[:hand], "hung", *places[hand + 1:])
    return places, slots, counts, seen, run


def flush_moves(plan, standing):
    going, *rest = standing
    name, done, hand, written, waiting, barred, elder = going
    if waiting == ():
        return []
    written, rest = effect(plan, hand, written, rest, waiting)
    if waiting[0] == "put":
        # What has left the slot is held no more, but by the reader.
        going, *rest = renumbered(plan, ((name, done, hand, written, (), barred, elder), *rest))
        hand = going[2]
    if plan.scripts[name][done] == ():
        return [ended(plan, FLUSH, elder, rest)]
    return [(FLUSH, ((name, done, hand, written, (), barred, elder), *rest), (), ())]


def take_moves(plan, standing, words):
    going, *rest = standing
    load = ("new", going[3], going[4], going[6])
    found = []
    if plan.is_any:
        found = [taken_back(plan, going, rest, cell) for cell, place in enumerate(rest[0]) if place == "back"]
    return [*found, stepped(plan, STEP, going, load, rest)]


def taken_back(plan, going, rest, cell):
    """The move by which a held cell is taken anew."""
    places, slots, counts, seen, run = rest
    run = begin_life(change(plan, slots, run, cell, plan.tracked), cell)
    places = (*places[:cell], "hand", *places[cell + 1:])
    slots = tuple([(one, () if one == cell else lot) for one, lot in slots])
    load = (cell, going[3], going[4], going[6])
    return stepped(plan, ("update", "back", cell), going, load, (places, slots, counts, seen, run))


def aside_moves(plan, standing, words):
    going, places, *rest = standing
    places = tuple([0 if place == "out" else place for place in places])
    return [moved_on(plan, going, (places, *rest))]


def aged(plan, going, rest):
    """The move by which the age increases."""
    places, slots, counts, seen, run = rest
    places = tuple([place if isinstance(place, str) else min(place + 1, plan.oldest) for place in places])
    shown, stores, marks = seen
    if shown == "now":
        shown = "past"
    stores = tuple([("age", "past") if store == ("age", "now") else store for store in stores])
    load = (going[2], going[3], going[4], plan.enters)
    return stepped(plan, STEP, going, load, (places, slots, counts, (shown, stores, marks), run))


def move_moves(plan, standing, words):
    going, *rest = standing
    return [] if rest[3][0] == "past" else [aged(plan, going, rest)]


def try_moves(plan, standing, words):
    going, *rest = standing
    kept = moved_on(plan, going, rest)
    if rest[3][0] == "past":
        return [kept]
    found = [aged(plan, going, rest)]
    return [*found, (KEPT, *kept[1:])] if going[6] else found


def wait_moves(plan, standing, words):
    going, *rest = standing
    if going[5]:
        return []
    # Who showed an elder age has left; with a buffer an elder age can still come out of it.
    load = (going[2], going[3], going[4], going[6] and plan.room > 0)
    return [stepped(plan, STEP, going, load, rest)]


def fence_moves(plan, standing, words):
    going, *rest = standing
    return [moved_on(plan, going, rest)] if going[4] == () else []


def can_be_spared(plan, standing, cell):
    """Whether somebody else can have marked a cell, here or as it was read."""
    waiting, slots = standing[0][4], standing[2]
    if waiting != () and waiting[0] == "put" and waiting[1] in plan.marked_slots:
        if slots[plan.places[waiting[1]]][0] == cell:
            return True
    return any([read[0] in plan.marked_slots and read[1:3] == (cell, "living") for read in standing[5][1]])


def give_moves(plan, standing, words):
    going, *rest = standing
    is_free = len(words) == 3
    marked = {cell: True for _, cell in rest[3][2]} if is_free else {}
    cells = [cell for cell, place in enumerate(rest[0])
             if not isinstance(place, str) and place >= words[1] and cell not in marked]
    found = [given_back(plan, STEP, going, rest, cells)]
    if is_free and cells != []:
        free = [cell for cell in cells if can_be_spared(plan, standing, cell)]
        for many in range(1, len(free) + 1):
            for lot in combinations(free, many):
                left = [cell for cell in cells if cell not in lot]
                found.append(given_back(plan, ("spared", lot), going, rest, left))
    return found


def given_back(plan, label, going, rest, cells):
    """The move by which these held cells are given back."""
    load = (going[2], going[3], going[4], going[6])
    if cells == []:
        return stepped(plan, label, going, load, rest)
    places, slots, counts, seen, run = rest
    places = tuple(["back" if cell in cells else place for cell, place in enumerate(places)])
    return stepped(plan, label, going, load, (places, slots, counts, seen, end_lives(run, cells)))


ACTIONS = {"write": store_moves, "over": store_moves, "put": store_moves, "bump": store_moves,
           "take": take_moves, "aside": aside_moves, "move": move_moves, "try": try_moves,
           "wait": wait_moves, "fence": fence_moves, "give": give_moves}


def step_moves(plan, standing):
    """The moves by the next step of the update in progress."""
    words = plan.scripts[standing[0][0]][standing[0][1]]
    if words == ():
        return []
    action = ACTIONS[words[0]]
    return action(plan, standing, words)
