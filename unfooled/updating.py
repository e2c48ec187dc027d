"""What updates do to a sight."""

from unfooled.kinds import STORES
from unfooled.sight import FRESH


def next_words(plan, sight):
    """The words of the update's next step, or None."""
    if sight.going == "" or sight.done == len(plan.scripts[sight.going]):
        return None
    return plan.scripts[sight.going][sight.done]


def see_bar(plan, sight):
    """A step becomes the next one: does this reader keep it as a wait?"""
    sight.barred = next_words(plan, sight) == ("wait",) and sight.shown != "none"


def begin(plan, sight, name):
    sight.going = name
    see_bar(plan, sight)


def may_step(plan, sight, words):
    """Whether the update's next step, with these words, is possible."""
    if words[0] in STORES or words[0] == "fence":
        return sight.buffer == []
    if words[0] == "wait":
        return not sight.barred
    return words[0] != "move" or sight.shown != "past"


def change(plan, sight, cell, part):
    """The content of a cell at a part becomes one that nobody has seen."""
    coming = plan.to_come[sight.at]
    for slot in list(sight.reads):
        one, state, turns, kept = sight.reads[slot]
        if one == cell:
            sight.reads[slot] = [one, state, turns, tuple([p for p in kept if p != part])]
            if (slot, part) in coming:
                sight.past = False
    for slot in plan.slots:
        if sight.hung[slot] == cell:
            touch(plan, sight, slot, part)


def touch(plan, sight, slot, part):
    """Memory has another content in a slot at a part than it had."""
    if (slot, part) in plan.touchable:
        sight.touched[(slot, part)] = True
    if slot not in sight.reads and (slot, part) in plan.to_come[sight.at]:
        sight.past = False


def with_part(plan, lot, part):
    if part in lot or part not in plan.tracked:
        return lot
    return tuple(sorted([*lot, part]))


def take_effect(plan, sight, store):
    if store[0] == "write":
        # A second store of one update to one part brings the same content again.
        if store[2] not in sight.written:
            change(plan, sight, store[1], store[2])
        sight.written = with_part(plan, sight.written, store[2])
    elif store[0] == "over":
        slot, part = store[1], store[2]
        if part not in sight.lots[slot]:
            change(plan, sight, sight.hung[slot], part)
        sight.lots[slot] = with_part(plan, sight.lots[slot], part)
    elif store[0] == "put":
        hang(plan, sight, store[1], store[2], store[3])
    else:
        turn(plan, sight, store[1])


def hang(plan, sight, slot, cell, written):
    sight.hung[slot] = cell
    sight.lots[slot] = written
    for part in plan.tracked:
        touch(plan, sight, slot, part)
    if slot in sight.reads and slot in plan.wide:
        one, state, turns, kept = sight.reads[slot]
        sight.reads[slot] = [one, state, (turns + 1) % plan.wide[slot], kept]


def turn(plan, sight, counter):
    place = plan.counters.index(counter)
    size = plan.sizes[counter]
    sight.counts[place] = (sight.counts[place] + 1) % (2 if size is None else size)
    for at in list(sight.looks):
        if plan.steps[at][1] == counter:
            sight.looks[at] = (sight.looks[at][0], True)


def lay(plan, sight, words):
    """A store is done: it takes effect, or lies in the buffer."""
    store = words
    if words[0] == "write":
        store = ("write", sight.hand, words[1])
    if words[0] == "put":
        store = ("put", words[1], sight.hand, sight.written)
        sight.places[sight.hung[words[1]]] = "out"
        sight.places[sight.hand] = "hung"
        sight.hand = None
        sight.written = ()
    if plan.has_buffer:
        sight.buffer = [store]
    else:
        take_effect(plan, sight, store)


def flush(plan, sight):
    store = sight.buffer[0]
    take_effect(plan, sight, store)
    sight.buffer = []


def take(plan, sight, cell):
    """A held cell that is back is taken, or (None) some other one."""
    if cell is None:
        sight.places[FRESH] = "hand"
        sight.hand = FRESH
        return
    sight.hand = cell
    sight.places[cell] = "hand"
    for part in plan.tracked:
        change(plan, sight, cell, part)
    for slot in list(sight.reads):
        if sight.reads[slot][0] == cell:
            sight.reads[slot] = [cell, "anew", sight.reads[slot][2], ()]
    for slot in plan.slots:
        if sight.hung[slot] == cell:
            sight.lots[slot] = ()


def lay_aside(sight):
    for cell in list(sight.places):
        if sight.places[cell] == "out":
            sight.places[cell] = 0


def grow_old(plan, sight):
    """The age increases."""
    for cell in list(sight.places):
        if not isinstance(sight.places[cell], str):
            sight.places[cell] = min(sight.places[cell] + 1, plan.oldest)
    if sight.shown == "now":
        sight.shown = "past"
    sight.stores = [("age", "past") if store == ("age", "now") else store for store in sight.stores]
    sight.elder = plan.enters


def given(sight, words):
    """The known cells that a step give gives back, if nobody else marks them."""
    marked = list(sight.marks.values()) if len(words) == 3 else []
    return [cell for cell in sight.places if not isinstance(sight.places[cell], str)
            and sight.places[cell] >= words[1] and cell not in marked]


def give(sight, words, spared):
    for cell in given(sight, words):
        if cell in spared:
            continue
        sight.places[cell] = "back"
        for slot in list(sight.reads):
            one, state, turns, kept = sight.reads[slot]
            if one == cell and state == "living":
                sight.reads[slot] = [one, "over", turns, kept]


def can_be_spared(plan, sight, cell):
    """Whether somebody else can have marked a cell, here or as it was read."""
    for slot in plan.marked_slots:
        if slot in sight.reads and sight.reads[slot][:2] == [cell, "living"]:
            return True
        if sight.buffer != [] and sight.buffer[0][:2] == ("put", slot) and sight.hung[slot] == cell:
            return True
    return False


def step(plan, sight, cell, is_kept, spared):
    """The update's next step; whether others keep it as a try, which cells they spare."""
    words = next_words(plan, sight)
    if words[0] in STORES:
        lay(plan, sight, words)
    elif words[0] == "take":
        take(plan, sight, cell)
    elif words[0] == "aside":
        lay_aside(sight)
    elif words[0] in ("move", "try"):
        if not is_kept and sight.shown != "past":
            grow_old(plan, sight)
    elif words[0] == "wait":
        # Who showed an elder age has left; with a buffer an elder age can still come out of it.
        sight.elder = sight.elder and plan.room > 0
    elif words[0] == "give":
        give(sight, words, spared)
    sight.done = sight.done + 1
    see_bar(plan, sight)


def memory_is_good(plan, sight):
    """Whether memory has all that was used, and what is still to be used as it is now."""
    for slot in sight.reads:
        cell, _, _, kept = sight.reads[slot]
        used = plan.used[sight.at].get(slot, ())
        if used == () and slot not in plan.slots_coming[sight.at]:
            continue
        if sight.hung[slot] != cell or kept != used:
            return False
    return True


def is_gone(plan, sight):
    """Whether something that was read or used has gone from memory."""
    for slot in sight.reads:
        cell, state, _, kept = sight.reads[slot]
        used = plan.used[sight.at].get(slot, ())
        if slot in plan.slots_coming[sight.at] and (state != "living" or sight.hung[slot] != cell):
            return True
        if used != () and (sight.hung[slot] != cell or kept != used):
            return True
    return False


def end_if_done(plan, sight):
    """End the update if all is done; the words for it."""
    if sight.buffer != [] or sight.done < len(plan.scripts[sight.going]):
        return ()
    sight.going = ""
    sight.done = 0
    sight.lots = {slot: () for slot in plan.slots}
    sight.touched = {}
    if sight.word == "fine" and not sight.past:
        sight.past = memory_is_good(plan, sight)
    return ("over", "gone") if is_gone(plan, sight) else ("over",)
