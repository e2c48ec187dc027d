"""What the watched reader can do next behind a standing, and how its run ends."""

from unfooled.numbering import renumbered
from unfooled.readers import STORES

DRAIN = ("own", "drain")
NEXT = ("own", "next")


def drain_moves(plan, standing):
    going, places, slots, counts, seen, run = standing
    if seen[1] == ():
        return []
    store = seen[1][0]
    going, seen = shown_behind(going, (seen[0], seen[1][1:], seen[2]), store)
    behind = (going, places, slots, counts, seen, run)
    if store[0] == "mark":
        behind = renumbered(plan, behind)
    return [(DRAIN, behind, (), ())]


def shown_behind(going, seen, store):
    """The update in progress and what the reader shows as a store of it takes effect."""
    shown, stores, marks = seen
    if store[0] == "age":
        # It shows none, or another enter took effect: it keeps no wait any more.
        return (*going[:5], False, going[6]), (store[1], stores, marks)
    marks = [told for told in marks if told[0] != store[1]]
    if store[2] != "none":
        marks = sorted([*marks, (store[1], store[2])])
    return going, (shown, stores, tuple(marks))


def next_moves(plan, standing):
    words = plan.steps[standing[5][0]]
    if words[0] in STORES:
        if plan.room > 0 and len(standing[4][1]) >= plan.room:
            return []
    elif words[0] == "fence" and standing[4][1] != ():
        return []
    behind, says, harms = own_step(plan, standing)
    if not says:
        if not plan.is_again:
            return [(NEXT, None, (), (words[0], "rejected"))]
        return [(NEXT, anew(plan, behind), (), (words[0], "again"))]
    if behind[5][0] < len(plan.steps):
        return [(NEXT, behind, harms, (words[0],))]
    return [(NEXT, None, tuple(sorted([*harms, *harms_at_end(plan, behind)])), (words[0], "accepted"))]


def own_step(plan, standing):
    """What is behind the reader's next step: a standing (its run may be at its end), whether a
    check says yes, and the harms that the step meets."""
    going, places, slots, counts, seen, run = standing
    words = plan.steps[run[0]]
    word = words[0]
    harms = ()
    says = True
    if word == "use":
        run, harms = use(plan, run, words)
    elif word == "num":
        run = see_number(plan, counts, run, words[1])
    elif word == "look":
        says, harms = look(slots[plan.places[words[1]]][0], run, words[1])
    elif word in ("same", "even"):
        run, says, harms = answer(run)
    run = (run[0] + 1, *run[1:])
    if word == "read":
        return read(plan, (going, places, slots, counts, seen, run), words[1]), says, harms
    if word in STORES:
        return store_own(plan, (going, places, slots, counts, seen, run), words), says, harms
    return (going, places, slots, counts, seen, run), says, harms


def store_own(plan, standing, words):
    going, places, slots, counts, seen, run = standing
    if words[0] in ("enter", "leave"):
        store = ("age", "now" if words[0] == "enter" else "none")
    else:
        cells = [one[1] for one in run[1] if words[0] == "mark" and one[0] == words[2]]
        store = ("mark", words[1], cells[0] if cells != [] else "none")
    if plan.room > 0:
        return going, places, slots, counts, (seen[0], (*seen[1], store), seen[2]), run
    going, seen = shown_behind(going, seen, store)
    behind = (going, places, slots, counts, seen, run)
    return behind if store[0] == "age" else renumbered(plan, behind)


def read(plan, standing, slot):
    """The standing behind a reading of a slot: its cell is held from now on."""
    going, places, slots, counts, seen, run = standing
    place = plan.places[slot]
    cell, lot = slots[place]
    if cell == "new":
        cell = len(places)
        places = (*places, "hung")
        slots = (*slots[:place], (cell, lot), *slots[place + 1:])
    state = "over" if places[cell] == "back" else "living"
    at, reads, looks, answers, past, word, touched = run
    reads = tuple(sorted([*reads, (slot, cell, state, 0, ())]))
    run = (at, reads, looks, answers, past, word, touched)
    return renumbered(plan, (going, places, slots, counts, seen, run))


def use(plan, run, words):
    """The run behind a use, and the harms that it meets."""
    at, reads, looks, answers, past, word, touched = run
    slot, part = words[1], words[2]
    state, kept = [(one[2], one[4]) for one in reads if one[0] == slot][0]
    if state != "living":
        return forgotten(run, "spoilt"), ("used",)
    if word != "fine" or part in kept:
        return run, ()
    if part in plan.used[at].get(slot, ()):
        return forgotten(run, "torn"), ()
    kept = tuple(sorted([*kept, part]))
    reads = tuple([(*one[:4], kept) if one[0] == slot else one for one in reads])
    return (at, reads, looks, answers, past, word, touched), ()


def forgotten(run, word):
    """The run as it is good for nothing any more."""
    at, reads, looks, answers, _, _, touched = run
    return at, tuple([(*one[:4], ()) for one in reads]), looks, answers, False, word, touched


def see_number(plan, counts, run, counter):
    """The run as a counter's number is seen, and the checks that ask for it are answered."""
    at, reads, looks, answers, past, word, touched = run
    rest = counts[plan.counters.index(counter)]
    seen = {step: (number, is_turned) for step, number, is_turned in looks}
    told = list(answers)
    for check, words in plan.answered[at]:
        told.append((check, answer_of(plan.sizes[counter], rest, words, seen)))
    seen[at] = (rest, False)
    looks = tuple([(step, *seen[step]) for step in sorted(seen) if step in plan.compared[at + 1]])
    return at, reads, looks, tuple(sorted(told)), past, word, touched


def answer_of(size, rest, words, seen):
    """What a check will say to a number, of which the rest is seen."""
    if words[0] == "even":
        return "yes" if rest % 2 == 0 else "no"
    ahead, is_turned = seen[words[1]]
    if ahead != rest or is_turned and size is None:
        return "no"
    return "fooled" if is_turned else "yes"


def answer(run):
    """The run behind a check of numbers, whether it says yes, and the harms."""
    at, reads, looks, answers, past, word, touched = run
    says = dict(answers)[at]
    answers = tuple([told for told in answers if told[0] != at])
    run = (at, reads, looks, answers, past, word, touched)
    return run, says != "no", ("fooled",) if says == "fooled" else ()


def look(hung, run, slot):
    """Whether a look at a slot, with the cell that hangs there, says yes, and the harms."""
    cell, state, turns = [one[1:4] for one in run[1] if one[0] == slot][0]
    if hung != cell or turns != 0:
        return False, ()
    return True, ("fooled",) if state == "anew" else ()


def anew(plan, standing):
    """The standing as the next try begins: all that was read is forgotten, not what is shown."""
    going, places, slots, counts, seen, run = standing
    past = not any([pair in plan.to_come[0] for pair in run[6]])
    return renumbered(plan, (going, places, slots, counts, seen, (0, (), (), (), past, "fine", run[6])))


def harms_at_end(plan, standing):
    """What a run meets that is over behind its last step."""
    run = standing[5]
    if run[4] or run[5] == "spoilt":
        return []
    return ["early"] if fits_coming(plan, standing) else ["torn"]


def fits_coming(plan, standing):
    """Whether the moment to which the update in progress leads has all that was used."""
    going, run = standing[0], standing[5]
    if going[0] == "" or run[5] != "fine":
        return False
    hung, changed = end_of_update(plan, going, standing[2])
    used = plan.used[run[0]]
    for slot, cell, _, _, kept in run[1]:
        if slot not in used:
            continue
        if hung[slot] != cell or kept != used[slot] or any([(cell, part) in changed for part in kept]):
            return False
    return True


def end_of_update(plan, going, slots):
    """Where cells will hang, and the pairs (held cell, part) whose content will have changed."""
    name, done, hand, written, waiting, _, _ = going
    hung = {slot: slots[place][0] for slot, place in plan.places.items()}
    lots = {cell: lot for cell, lot in slots}
    lots[hand] = written
    steps = list(plan.scripts[name][done:-1])
    if waiting != () and waiting[0] == "put":
        hung[waiting[1]] = waiting[2]
        lots[waiting[2]] = waiting[3]
    elif waiting != ():
        steps = [waiting, *steps]
    changed = {}
    for words in steps:
        if words[0] == "take":
            # A cell that is yet to be taken: nobody can have used what it will have.
            hand = "new"
        elif words[0] == "put":
            hung[words[1]] = hand
        elif words[0] in ("write", "over"):
            cell = hand if words[0] == "write" else hung[words[1]]
            if cell != "new" and words[-1] not in lots.get(cell, ()):
                changed[(cell, words[-1])] = True
    return hung, changed
