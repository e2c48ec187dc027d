"""Small changes of a design, and what they do to a reader."""

from unfooled.errors import InvalidChange, InvalidDesign, InvalidReader, NoStep
from unfooled.faults import HARMS, faults_of, happens
from unfooled.readers import Reader, numbers_in_check
from unfooled.words import is_number_below


def swapped(reader, at):
    """The reader with a step and the next one in each other's places; numbers in checks go along
    with their steps, so it is none if a check names both (the lesser number has to stand first)."""
    if not is_number_below(at, len(reader) - 1):
        raise NoStep(at)
    places = {at: at + 1, at + 1: at}
    texts = []
    for text in [*reader.texts[:at], reader.texts[at + 1], reader.texts[at], *reader.texts[at + 2:]]:
        numbers = [places.get(number, number) for number in numbers_in_check(text)]
        words = text.split(" ")
        texts.append(" ".join([words[0], *[str(number) for number in numbers]]) if numbers != [] else text)
    return Reader(reader.name, texts, reader.word)


def resized(pairs, name, size):
    """The pairs (name, size) with another size of this name; an error if none has it."""
    if not isinstance(name, str) or name not in dict(pairs):
        raise InvalidChange("change")
    return [(one, size if one == name else told) for one, told in pairs]


def change_out(design, reader, change):
    return design.with_reader(reader.without(change[1]))


def change_in(design, reader, change):
    return design.with_reader(reader.with_more(change[1], change[2]))


def change_swap(design, reader, change):
    return design.with_reader(swapped(reader, change[1]))


def change_round(design, reader, change):
    return design.with_rounds(resized(design.rounds, change[1], change[2]))


def change_wide(design, reader, change):
    return design.with_wide(resized(design.wide, change[1], change[2]))


def change_rooms(design, reader, change):
    return design.with_rooms((change[1], change[2]))


def change_reuse(design, reader, change):
    return design.with_reuse(change[1])


ACTIONS = {"out": change_out, "in": change_in, "swap": change_swap, "round": change_round,
           "wide": change_wide, "rooms": change_rooms, "reuse": change_reuse}
SIZES = {"out": 2, "in": 3, "swap": 2, "round": 3, "wide": 3, "rooms": 3, "reuse": 2}


def is_told(value):
    """Whether any value is a tuple that begins as a change, with as many things."""
    if not isinstance(value, tuple) or len(value) == 0 or not isinstance(value[0], str):
        return False
    return SIZES.get(value[0]) == len(value)


def changed(design, name, change):
    reader = design.reader(name)
    if not is_told(change):
        raise InvalidChange("change")
    action = ACTIONS[change[0]]
    try:
        return action(design, reader, change)
    except (InvalidReader, InvalidDesign, NoStep):
        raise InvalidChange("change")


def led_back(design, name, change):
    changed(design, name, change)
    word = change[0]
    if word == "out":
        return ("in", change[1], design.reader(name).texts[change[1]])
    if word == "in":
        return ("out", change[1])
    if word == "round":
        return (word, change[1], dict(design.rounds)[change[1]])
    if word == "wide":
        return (word, change[1], dict(design.wide)[change[1]])
    if word == "rooms":
        return (word, *design.rooms)
    return (word, design.reuse) if word == "reuse" else change


def leads_to_another(design, name, change):
    """Whether a change leads to another reader."""
    try:
        return changed(design, name, change).reader(name) != design.reader(name)
    except InvalidChange:
        return False


def single_changes(design, name):
    steps = range(len(design.reader(name)))
    found = [(word, at) for word in ("out", "swap") for at in steps]
    return tuple([change for change in found if leads_to_another(design, name, change)])


def effect(design, name, change):
    ahead = faults_of(design, name)
    behind = faults_of(changed(design, name, change), name)
    return (tuple([harm for harm in behind if harm not in ahead]),
            tuple([harm for harm in ahead if harm not in behind]))


def brings(design, name, change):
    """Whether a change brings some harm."""
    ahead = faults_of(design, name)
    behind = changed(design, name, change)
    # The last ones first: back is looked for beside all other readers.
    for harm in HARMS[::-1]:
        if harm not in ahead and happens(behind, name, harm):
            return True
    return False


def takes(design, name, change):
    """Whether a change takes some harm away."""
    behind = changed(design, name, change)
    for harm in faults_of(design, name)[::-1]:
        if not happens(behind, name, harm):
            return True
    return False


def breaking(design, name):
    return tuple([change for change in single_changes(design, name) if brings(design, name, change)])


def mending(design, name):
    return tuple([change for change in single_changes(design, name)
                  if takes(design, name, change) and not brings(design, name, change)])
