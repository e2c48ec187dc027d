"""Which rounds of counters and stamps are large enough."""

from math import gcd

from unfooled.turns import numbers_told, puts_amid, turns_amid

# The greatest round that a design can have.
GREATEST = 8


def is_safe_round(told, by):
    below, tail, period, rests = told
    if any([number > 0 and number % by == 0 for number in below]):
        return False
    # Great multiples have all rests that this divisor divides.
    part = gcd(by, period)
    return not any([(tail + rest) % part == 0 for rest in rests])


def safe_rounds(told):
    _, tail, period, _ = told
    start = max(tail, 2)
    some = [by for by in range(2, start) if is_safe_round(told, by)]
    rests = [rest for rest in range(period) if is_safe_round(told, start + rest)]
    return numbers_told(some, start, period, rests)


def least_round(told):
    return least_common([told], False)


def least_common(rows, is_even):
    """The least number from 2 on (the least even one) that is safe for all, or None."""
    start = 2
    period = 2 if is_even else 1
    for _, tail, by, _ in rows:
        start = max(start, tail)
        period = period * by // gcd(period, by)
    for number in range(2, start + period):
        if (not is_even or number % 2 == 0) and all([is_safe_round(told, number) for told in rows]):
            return number
    return None


def checks_of(reader, word):
    """The numbers of a reader's checks with this first word."""
    return [at for at, text in enumerate(reader.texts) if text.split(" ")[0] == word]


def counter_of(reader, at):
    """The counter for which a check same or even asks."""
    step = int(reader.texts[at].split(" ")[1])
    return reader.texts[step].split(" ")[1]


def fooled_checks(design, name):
    reader = design.reader(name)
    sizes = dict(design.rounds)
    stamps = dict(design.wide)
    found = []
    for at in checks_of(reader, "same"):
        size = sizes[counter_of(reader, at)]
        if size is not None and not is_safe_round(turns_amid(design, name, at), size):
            found.append(at)
    for at in checks_of(reader, "look"):
        slot = reader.texts[at].split(" ")[1]
        if not is_safe_round(puts_amid(design, name, at), stamps.get(slot, 1)):
            found.append(at)
    return tuple(sorted(found))


def told_of_counters(design):
    """For each counter that some same asks what is told for these checks."""
    found = {}
    for reader in design.readers:
        for at in checks_of(reader, "same"):
            counter = counter_of(reader, at)
            found[counter] = [*found.get(counter, []), turns_amid(design, reader.name, at)]
    return found


def told_of_slots(design):
    """For each slot that some look asks what is told for these checks."""
    found = {}
    for reader in design.readers:
        for at in checks_of(reader, "look"):
            slot = reader.texts[at].split(" ")[1]
            found[slot] = [*found.get(slot, []), puts_amid(design, reader.name, at)]
    return found


def evens_of(design):
    """The counters that some even asks."""
    return {counter_of(reader, at): True for reader in design.readers
            for at in checks_of(reader, "even")}


def counter_sizes(design):
    """The pairs (counter, least size) of the counters that some same asks, ascending."""
    evens = evens_of(design)
    told = told_of_counters(design)
    return [(counter, least_common(told[counter], counter in evens)) for counter in sorted(told)]


def slot_sizes(design):
    """The pairs (slot, least size) of the slots that some look asks, ascending."""
    told = told_of_slots(design)
    return [(slot, stamp_size(told[slot])) for slot in sorted(told)]


def stamp_size(rows):
    """The least size of a stamp that is safe for all these puts; 1 if none are told."""
    if all([told == ((), 0, 1, ()) for told in rows]):
        return 1
    return least_common(rows, False)


def least_rounds(design):
    # Counters first: where names are alike, sorting keeps this order.
    return tuple(sorted([*counter_sizes(design), *slot_sizes(design)], key=lambda pair: pair[0]))


def with_least_rounds(design):
    counters = counter_sizes(design)
    slots = slot_sizes(design)
    if any([size is None or size > GREATEST for _, size in [*counters, *slots]]):
        return None
    sizes = dict([*design.rounds, *counters])
    stamps = dict([*design.wide, *slots])
    wide = [(slot, stamps[slot]) for slot in sorted(stamps) if stamps[slot] > 1]
    return design.with_rounds([(name, sizes[name]) for name in sorted(sizes)]).with_wide(wide)
