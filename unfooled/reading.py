"""What the watched reader does in a sight, and how its run ends."""

from unfooled.readers import STORES


def may_go_on(plan, sight):
    word = plan.steps[sight.at][0]
    if word in STORES:
        return plan.room == 0 or len(sight.stores) < plan.room
    return word != "fence" or sight.stores == []


def show(sight, store):
    if store[0] == "age":
        sight.shown = store[1]
        # It shows none, or another enter took effect.
        sight.barred = False
    elif store[2] is None:
        sight.marks.pop(store[1], None)
    else:
        sight.marks[store[1]] = store[2]


def drain(sight):
    show(sight, sight.stores[0])
    sight.stores = sight.stores[1:]


def store_own(plan, sight, words):
    if words[0] in ("enter", "leave"):
        store = ("age", "now" if words[0] == "enter" else "none")
    else:
        store = ("mark", words[1], sight.reads[words[2]][0] if words[0] == "mark" else None)
    if plan.room == 0:
        show(sight, store)
    else:
        sight.stores = [*sight.stores, store]


def read(sight, slot):
    cell = sight.hung[slot]
    sight.reads[slot] = [cell, "over" if sight.places[cell] == "back" else "living", 0, ()]


def forget_kept(sight, word):
    """The run is good for nothing any more."""
    sight.word = word
    sight.past = False
    for slot in list(sight.reads):
        sight.reads[slot] = [*sight.reads[slot][:3], ()]


def use(plan, sight, slot, part):
    """Use a part of the cell that was read; the harms that are met."""
    cell, state, turns, kept = sight.reads[slot]
    if state != "living":
        forget_kept(sight, "spoilt")
        return ["used"]
    if sight.word == "fine" and part not in kept:
        if part in plan.used[sight.at].get(slot, ()):
            forget_kept(sight, "torn")
        else:
            sight.reads[slot] = [cell, state, turns, tuple(sorted([*kept, part]))]
    return []


def number(plan, sight, counter):
    """See a counter's number, and answer the checks that ask for it."""
    at = sight.at
    rest = sight.counts[plan.counters.index(counter)]
    for check, words in plan.answered[at]:
        if words[0] == "even":
            sight.answers[check] = "yes" if rest % 2 == 0 else "no"
            continue
        ahead, is_turned = sight.looks[words[1]]
        if ahead != rest or is_turned and plan.sizes[counter] is None:
            sight.answers[check] = "no"
        else:
            sight.answers[check] = "fooled" if is_turned else "yes"
    sight.looks[at] = (rest, False)
    sight.looks = {step: sight.looks[step] for step in sight.looks if step in plan.compared[at + 1]}


def answer(plan, sight, words):
    """What a check says: yes, no or fooled."""
    if words[0] != "look":
        return sight.answers.pop(sight.at)
    cell, state, turns, _ = sight.reads[words[1]]
    if sight.hung[words[1]] != cell or turns != 0:
        return "no"
    return "fooled" if state == "anew" else "yes"


def go_on(plan, sight):
    """The reader's next step: the harms, and the word for the end of the run, or an empty one."""
    words = plan.steps[sight.at]
    said = "yes"
    harms = []
    if words[0] in STORES:
        store_own(plan, sight, words)
    elif words[0] == "read":
        read(sight, words[1])
    elif words[0] == "use":
        harms = use(plan, sight, words[1], words[2])
    elif words[0] == "num":
        number(plan, sight, words[1])
    elif words[0] in ("look", "same", "even"):
        said = answer(plan, sight, words)
    if said == "no":
        return [], "again" if plan.is_again else "rejected"
    if said == "fooled":
        harms = ["fooled"]
    sight.at = sight.at + 1
    if sight.at < len(plan.steps):
        return harms, ""
    return [*harms, *harms_at_end(plan, sight)], "accepted"


def begin_anew(plan, sight):
    """The next try: all that was read and used is forgotten, what is shown stays."""
    sight.at = 0
    sight.reads = {}
    sight.looks = {}
    sight.answers = {}
    sight.word = "fine"
    sight.past = not any([pair in sight.touched for pair in plan.pairs])


def harms_at_end(plan, sight):
    """What a run meets that is over behind its last step."""
    if sight.word == "spoilt" or sight.past:
        return []
    if sight.word == "fine" and fits_coming(plan, sight):
        return ["early"]
    return ["torn"]


def fits_coming(plan, sight):
    """Whether the moment to which the update in progress leads has all that was used."""
    if sight.going == "" or sight.word != "fine":
        return False
    hung, changed = end_of_update(plan, sight)
    for slot in sight.reads:
        cell, _, _, kept = sight.reads[slot]
        used = plan.used[sight.at].get(slot, ())
        if used == ():
            continue
        if hung[slot] != cell or kept != used or any([(cell, part) in changed for part in used]):
            return False
    return True


def end_of_update(plan, sight):
    """Where cells will hang, and the pairs (cell, part) whose content will have changed."""
    hung = dict(sight.hung)
    lots = {sight.hung[slot]: sight.lots[slot] for slot in plan.slots}
    hand = sight.hand
    lots[hand] = sight.written
    steps = list(plan.scripts[sight.going][sight.done:])
    for store in sight.buffer:
        if store[0] == "put":
            hung[store[1]] = store[2]
            lots[store[2]] = store[3]
        else:
            steps = [store, *steps]
    changed = {}
    for words in steps:
        if words[0] == "take":
            # A cell that is yet to be taken: nobody can have used what it will have.
            hand = None
        elif words[0] == "put":
            hung[words[1]] = hand
        elif words[0] in ("write", "over"):
            cell = hand if words[0] == "write" else hung[words[1]]
            if words[-1] not in lots.get(cell, ()):
                changed[(cell, words[-1])] = True
                lots[cell] = (*lots.get(cell, ()), words[-1])
    return hung, changed
