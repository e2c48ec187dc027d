"""Which steps can be done while stores wait, and how many stores can wait at one time."""

from unfooled.readers import CHECKS

# The words of kinds and of readers; none is a word of both.
STORES = ("write", "put", "over", "bump", "enter", "leave", "mark", "clear")
AT_ONCE = ("aside", "move", "try", "wait", "give", "read", "use", "num", "look")


def words_of(script):
    """The first words of the steps of a script."""
    return [text.split(" ")[0] for text in script.texts]


def numbers_waiting(words):
    """For each step how many stores ahead of it have no fence between."""
    found = []
    many = 0
    for word in words:
        found.append(many)
        if word in STORES:
            many = many + 1
        if word == "fence":
            many = 0
    return [*found, many]


def places_in(side, script):
    """The places in one script."""
    words = words_of(script)
    waiting = numbers_waiting(words)
    return [(side, script.name, at) for at, word in enumerate(words) if word in AT_ONCE and waiting[at] > 0]


def places(design):
    scripts = [("reader", reader) for reader in design.readers] if design.rooms[0] != 0 else []
    if design.rooms[1] != 0:
        scripts = [*scripts, *[("kind", kind) for kind in design.kinds]]
    return tuple(sorted([place for side, script in scripts for place in places_in(side, script)]))


def most_waiting(reader):
    """The greatest number of stores that can wait in a run of a reader, or None."""
    words = words_of(reader)
    waiting = numbers_waiting(words)
    if reader.word == "once":
        return max(waiting)
    first_fence = words.index("fence") if "fence" in words else len(words)
    left = 0
    for at, word in enumerate(words):
        if word in CHECKS and at < first_fence and waiting[at] > 0:
            # Each try lets more lie there.
            return None
        if word in CHECKS:
            left = max(left, waiting[at])
    return max([*waiting, left + waiting[first_fence]])


def rooms_enough(design):
    of_readers = [most_waiting(reader) for reader in design.readers]
    of_kinds = [max(numbers_waiting(words_of(kind))) for kind in design.kinds]
    return None if None in of_readers else max(of_readers), max(of_kinds)
