"""The numbers of the held cells in a standing, and the standing at first."""


def first_standing(plan):
    """The standing at first."""
    slots = tuple([("new", ()) for _ in plan.slots])
    going = ("", 0, "none", (), (), False, False)
    run = (0, (), (), (), True, "fine", ())
    return going, (), slots, tuple([0 for _ in plan.counters]), ("none", (), ()), run


def held_order(plan, standing):
    """The numbers of the held cells in the order in which they ought to be numbered."""
    found = {}
    for read in standing[5][1]:
        found[read[1]] = True
    for _, cell in standing[4][2]:
        found[cell] = True
    for store in standing[4][1]:
        if store[0] == "mark" and store[2] != "none":
            found[store[2]] = True
    waiting = standing[0][4]
    if waiting != () and waiting[0] == "put":
        found[standing[2][plan.places[waiting[1]]][0]] = True
    return list(found)


def renumbered(plan, standing):
    """The standing with its held cells numbered as they ought to be; others are new ones."""
    order = held_order(plan, standing)
    going, places, slots, counts, seen, run = standing
    if len(order) == len(places) and all([order[at] == at for at in range(len(order))]):
        return standing
    names = {cell: at for at, cell in enumerate(order)}
    names["none"] = "none"
    name, done, hand, written, waiting, barred, elder = going
    going = (name, done, names.get(hand, "new"), written, renamed_store(names, waiting), barred, elder)
    places = tuple([places[cell] for cell in order])
    slots = tuple([(names.get(cell, "new"), lot) for cell, lot in slots])
    shown, stores, marks = seen
    stores = tuple([("mark", store[1], names[store[2]]) if store[0] == "mark" else store for store in stores])
    marks = tuple([(mark, names[cell]) for mark, cell in marks])
    at, reads, looks, answers, past, word, touched = run
    reads = tuple([(slot, names[cell], state, turns, kept) for slot, cell, state, turns, kept in reads])
    return (going, places, slots, counts, (shown, stores, marks),
            (at, reads, looks, answers, past, word, touched))


def renamed_store(names, store):
    """What lies in the buffer of the update, its cell named anew."""
    if store == ():
        return store
    if store[0] == "write":
        return ("write", names.get(store[1], "new"), store[2])
    if store[0] == "put":
        return ("put", store[1], names.get(store[2], "new"), store[3])
    return store
