"""What a watched run loses as contents, hung cells and numbers change."""


def touch(plan, run, pairs):
    """The run as memory has other contents at these pairs (slot, part)."""
    unread = plan.unread[run[0]]
    is_lost = run[4] and any([pair in unread for pair in pairs])
    more = [pair for pair in pairs if pair in plan.touchable and pair not in run[6]]
    if not is_lost and more == []:
        return run
    at, reads, looks, answers, past, word, touched = run
    return at, reads, looks, answers, past and not is_lost, word, tuple(sorted([*touched, *more]))


def change(plan, slots, run, cell, parts):
    """The run as the contents of a held cell at these parts become ones that nobody has seen."""
    at, reads, looks, answers, past, word, touched = run
    coming = plan.to_come[at]
    found = []
    for slot, one, state, turns, kept in reads:
        if one == cell:
            kept = tuple([part for part in kept if part not in parts])
            past = past and not any([(slot, part) in coming for part in parts])
        found.append((slot, one, state, turns, kept))
    run = (at, tuple(found), looks, answers, past, word, touched)
    hung = [slot for slot, place in plan.places.items() if slots[place][0] == cell]
    return touch(plan, run, [(slot, part) for slot in hung for part in parts]) if hung != [] else run


def hang(plan, slots, run, store):
    """The slots and the run as another cell hangs in a slot: store is (.., slot, cell, written)."""
    _, slot, cell, written = store
    place = plan.places[slot]
    slots = (*slots[:place], (cell, written), *slots[place + 1:])
    run = touch(plan, run, plan.pairs_in[slot])
    if slot in plan.wide and any([read[0] == slot for read in run[1]]):
        size = plan.wide[slot]
        reads = tuple([(*read[:3], (read[3] + 1) % size, read[4]) if read[0] == slot else read
                       for read in run[1]])
        run = (run[0], reads, *run[2:])
    return slots, run


def turn(plan, counts, run, counter):
    """The counts and the run as a counter turns."""
    place = plan.counters.index(counter)
    counts = (*counts[:place], (counts[place] + 1) % plan.rests[counter], *counts[place + 1:])
    if run[2] == () or counter not in plan.flagged:
        return counts, run
    looks = tuple([(at, rest, True) if plan.steps[at][1] == counter else (at, rest, is_turned)
                   for at, rest, is_turned in run[2]])
    return counts, (run[0], run[1], looks, *run[3:])


def end_lives(run, cells):
    """The run as these cells are given back."""
    reads = tuple([(slot, cell, "over" if cell in cells and state == "living" else state, turns, kept)
                   for slot, cell, state, turns, kept in run[1]])
    return run[0], reads, *run[2:]


def begin_life(run, cell):
    """The run as a held cell is taken anew."""
    reads = tuple([(slot, one, "anew", turns, ()) if one == cell else (slot, one, state, turns, kept)
                   for slot, one, state, turns, kept in run[1]])
    return run[0], reads, *run[2:]


def memory_is_good(plan, slots, run):
    """Whether memory has all that was used, and what is still to be used as it is now."""
    used = plan.used[run[0]]
    coming = plan.slots_coming[run[0]]
    for slot, cell, _, _, kept in run[1]:
        if slot not in used and slot not in coming:
            continue
        if slots[plan.places[slot]][0] != cell or kept != used.get(slot, ()):
            return False
    return True


def is_gone(plan, slots, run):
    """Whether something that was read or used has gone from memory."""
    used = plan.used[run[0]]
    coming = plan.slots_coming[run[0]]
    for slot, cell, state, _, kept in run[1]:
        hangs = slots[plan.places[slot]][0] == cell
        if slot in coming and (state != "living" or not hangs):
            return True
        if slot in used and (not hangs or kept != used[slot]):
            return True
    return False
