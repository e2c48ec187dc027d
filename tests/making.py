"""Random designs and histories for the tests (a seed of its own for each)."""

import itertools
import random

from unfooled.buffers import places
from unfooled.designs import Design
from unfooled.errors import LookError
from unfooled.joins import joined
from unfooled.kinds import Kind
from unfooled.readers import Reader
from unfooled.scene import Scene, event_words


def random_kind(rng, name, slots, parts, counters, words, most):
    while True:
        texts = []
        for _ in range(rng.randint(1, most)):
            texts.append(random_kind_step(rng, slots, parts, counters, words))
        try:
            return Kind(name, texts)
        except LookError:
            pass


def random_kind_step(rng, slots, parts, counters, words):
    word = rng.choice(words)
    slot, part = rng.choice(slots), rng.choice(parts)
    if word == "bump" and not counters:
        word = "aside"
    texts = {"write": f"write {part}", "put": f"put {slot}", "over": f"over {slot} {part}",
             "give": f"give {rng.choice([0, 0, 1, 2])}",
             "givefree": f"give {rng.choice([0, 0, 1])} free"}
    if word == "bump":
        return f"bump {rng.choice(counters)}"
    return texts.get(word, word)


def swapping_kind(rng, name, slots, parts, counters, words, most):
    """A kind that takes a cell and hangs it, with some random steps put in."""
    texts = ["take", f"put {rng.choice(slots)}"]
    tails = {"marks": [["aside", "give 0 free"], ["give 0 free", "aside"], ["aside", "wait", "give 0"]],
             "ages": [["aside", "try", "give 1"], ["aside", "wait", "give 0"], ["aside", "try"],
                      ["aside", "try", "give 2"], ["aside", "move", "give 1"]]}
    taste = "marks" if "givefree" in words else "ages" if "move" in words else ""
    if rng.random() < 0.7:
        texts = texts + rng.choice(tails.get(taste, [["aside", "give 0"], ["aside", "give 0"]]))
    while len(texts) < most and rng.random() < 0.85:
        at = rng.randint(0, len(texts))
        try:
            texts = list(Kind(name, texts).with_more(
                at, random_kind_step(rng, slots, parts, counters, words)).texts)
        except LookError:
            pass
    return Kind(name, texts)


def random_reader(rng, name, slots, parts, counters, words, most):
    texts = []
    many = rng.randint(1, most)
    for _ in range(200):
        if len(texts) >= many:
            break
        word = rng.choice(words)
        slot, part = rng.choice(slots), rng.choice(parts)
        nums = [at for at, text in enumerate(texts) if text.startswith("num")]
        text = {"mark": f"mark {rng.choice('hi')} {slot}", "clear": f"clear {rng.choice('hi')}",
                "read": f"read {slot}", "use": f"use {slot} {part}",
                "look": f"look {slot}"}.get(word, word)
        if word == "num":
            if not counters:
                continue
            text = f"num {rng.choice(counters)}"
        if word in ("same", "even"):
            if not nums or word == "same" and len(nums) < 2:
                continue
            text = f"even {rng.choice(nums)}"
            if word == "same":
                low, high = sorted(rng.sample(nums, 2))
                text = f"same {low} {high}"
        try:
            Reader(name, texts + [text])
        except LookError:
            continue
        texts.append(text)
    return Reader(name, texts or ["read " + slots[0]], rng.choice(["once", "again"]))


READER_WORDS = {
    "plain": ["read", "use", "use", "read", "look"],
    "ages": ["read", "use", "use", "enter", "leave", "look", "fence"],
    "marks": ["read", "use", "use", "look", "mark", "mark", "clear", "fence"],
    "numbers": ["read", "use", "use", "num", "num", "same", "even", "look"],
    "mixed": ["read", "use", "use", "look", "num", "num", "same", "even", "enter", "leave"],
}
KIND_WORDS = {
    "plain": ["write", "put", "over", "aside", "give", "take"],
    "ages": ["write", "put", "over", "aside", "give", "take", "try", "move", "wait", "fence"],
    "marks": ["write", "put", "aside", "givefree", "givefree", "take", "move", "wait"],
    "numbers": ["write", "put", "over", "aside", "give", "take", "bump", "bump"],
    "mixed": ["write", "put", "over", "aside", "give", "take", "bump", "bump", "try", "wait",
              "fence"],
}


def enters_before_checks(reader):
    words = [text.split(" ")[0] for text in reader.texts]
    seen = False
    for word in words:
        if word == "enter" and seen:
            return False
        seen = seen or word in ("look", "same", "even")
    return True


def marks_well(reader):
    """The limits for readers with a step mark."""
    words = [text.split(" ") for text in reader.texts]
    marks = [at for at, row in enumerate(words) if row[0] == "mark"]
    if not marks:
        return True
    if any(row[0] == "enter" for row in words) or len({words[at][2] for at in marks}) > 1:
        return False
    return all(row[0] in ("read", "mark", "use", "look", "fence") for row in words[:marks[-1]])


def marks_all_slots(design):
    """With give K free and reuse any: readers mark each slot into which a kind puts, or none."""
    marked = {text.split(" ")[2] for reader in design.readers for text in reader.texts
              if text.startswith("mark")}
    put = {text.split(" ")[1] for kind in design.kinds for text in kind.texts
           if text.startswith("put")}
    return not marked or put <= marked


def is_within_limits(design):
    texts = [text for kind in design.kinds for text in kind.texts]
    frees = any(text.endswith("free") for text in texts)
    if frees and "try" in texts:
        return False
    if not all(enters_before_checks(reader) and marks_well(reader) for reader in design.readers):
        return False
    return not frees or design.reuse == "never" or marks_all_slots(design)


def random_design(rng, most_steps=6, reader_steps=7, flavour=None):
    while True:
        taste = flavour or rng.choice(sorted(KIND_WORDS))
        slots = ["s", "t"][:rng.choice([1, 1, 2])]
        parts = ["p", "q"][:rng.choice([1, 1, 2])]
        counters = ["c"] if taste in ("numbers", "mixed") else []
        kinds = []
        for at in range(rng.choice([1, 1, 2])):
            make = rng.choice([random_kind, swapping_kind, swapping_kind])
            kinds.append(make(rng, "kl"[at], slots, parts, counters, KIND_WORDS[taste],
                              most_steps))
        readers = [random_reader(rng, "rno"[at], slots, parts, counters, READER_WORDS[taste],
                                 reader_steps) for at in range(rng.choice([1, 2]))]
        rounds = [(counter, rng.choice([None, 2, 3, 4])) for counter in counters]
        wide = [(slots[0], rng.choice([2, 3, 4]))] if rng.random() < 0.3 else []
        rooms = (rng.choice([0, 0, 1]), rng.choice([0, 0, 1]))
        design = Design(slots, parts, kinds, readers, rounds, wide, rooms,
                        rng.choice(["any", "any", "never"]))
        if is_within_limits(design):
            return design


def random_events(rng, design, many=50, readers=4):
    """A random history of so many tries, and the scene behind it."""
    scene, events, lazy = Scene(design), [], rng.uniform(0.2, 0.8)
    for _ in range(many):
        updates = ["step", "step", "flush"] + ["begin " + kind.name for kind in design.kinds]
        updates += [f"step {cell}" for cell in scene.house.back] * 2
        others = [f"{word} {at}" for at in range(len(scene.guests)) for word in ("next", "drain")]
        if len(scene.guests) < readers:
            others += ["start " + reader.name for reader in design.readers]
        pool = updates if rng.random() < lazy else others
        pool = [text for text in pool if scene.may(event_words(design, text))]
        if pool:
            events.append(rng.choice(pool))
            scene.do(event_words(design, events[-1]))
    return events, scene


TURN_WORDS = {
    "plain": (["put", "aside", "give", "take", "bump", "bump", "bump"],
              ["read", "num", "num", "same", "even", "look"]),
    "ages": (["put", "aside", "give", "take", "bump", "bump", "move", "wait"],
             ["read", "num", "num", "same", "even", "look", "enter", "leave"]),
    "marks": (["put", "aside", "givefree", "take", "bump", "move", "wait"],
              ["read", "num", "num", "same", "mark", "look", "clear"]),
}


def asks_for_turns(reader):
    words = [text.split(" ")[0] for text in reader.texts]
    if "same" not in words and "look" not in words:
        return False
    return words.count("mark") <= 2 and ("mark" not in words or words.count("read") == 1)


def turn_design(rng):
    """A design of which numbers of turns can be asked."""
    while True:
        slots = ["s", "t"][:rng.choice([1, 1, 2])]
        counters = ["c", "d"][:rng.choice([1, 1, 2])]
        words, reader_words = TURN_WORDS[rng.choice(sorted(TURN_WORDS))]
        kinds = [rng.choice([random_kind, swapping_kind])(rng, name, slots, ["p"], counters, words, 6)
                 for name in "kl"[:rng.choice([1, 1, 2])]]
        reader = random_reader(rng, "r", slots, ["p"], counters, reader_words, 8)
        if asks_for_turns(reader) and not any("try" in kind.texts for kind in kinds):
            rounds = [(counter, rng.choice([None, 2, 3, 4, 5])) for counter in counters]
            wide = [(slots[0], rng.choice([2, 3, 4]))] if rng.random() < 0.3 else []
            return Design(slots, ["p"], kinds, [reader], rounds, wide, (0, 0),
                          rng.choice(["any", "any", "never"]))


def checks_of(reader):
    """The numbers of a reader's checks `same` and `look`, with the words."""
    return [(at, text.split(" ")[0]) for at, text in enumerate(reader.texts)
            if text.split(" ")[0] in ("same", "look")]


# Designs that are nearly right: with stores that take effect at once harms are kept off.
NEARLY = (
    (["take, write p, put s, aside, wait, give 0"], ["enter, read s, use s p, leave"]),
    (["take, write p, put s, aside, wait, give 0"], ["enter, read s, use s p, leave", "read s, look s"]),
    (["take, put s, aside, wait, give 0"], ["enter, leave, enter, read s, use s p, leave"]),
    (["take, write p, put s, aside, move, give 1"], ["enter, read s, use s p, leave"]),
    (["take, put s, aside, try, give 2"], ["enter, read s, use s p, leave"]),
    (["take, put s, aside, give 0 free"], ["read s, mark h s, look s, use s p, clear h"]),
    (["take, put s, aside, give 0 free"], ["read s, mark h s, look s, use s p, use s p"]),
    (["bump c, over s p, over s q, bump c"], ["num c, even 0, read s, use s p, use s q, num c, same 0 5"]),
    (["take, put s, wait, aside, wait, give 0"], ["enter, read s, use s p, use s p, leave"]),
)


def near_design(rng, most_steps=6, reader_steps=7):
    """A design that is nearly right, some steps being put in or left out."""
    while True:
        kinds, readers = rng.choice(NEARLY)
        scripts = [Kind(name, texts.split(", ")) for name, texts in zip("kl", kinds)]
        scripts += [Reader(name, texts.split(", "), rng.choice(["once", "again"]))
                    for name, texts in zip("rn", readers)]
        for at, script in enumerate(scripts):
            for _ in range(rng.choice([0, 0, 1, 2])):
                place = rng.randrange(len(script))
                more = rng.choice(["fence", "wait", "write p", "over s p"] if isinstance(script, Kind)
                                  else ["fence", "use s p", "look s", "leave", "enter"])
                try:
                    script = script.without(place) if rng.random() < 0.2 else script.with_more(place, more)
                except LookError:
                    pass
            scripts[at] = script
        design = Design(["s"], ["p", "q"], [one for one in scripts if isinstance(one, Kind)],
                        [one for one in scripts if isinstance(one, Reader)], [("c", 4)], [],
                        rng.choice([(0, 0), (1, 1), (1, 0), (0, 1)]), rng.choice(["any", "any", "any", "never"]))
        if (is_within_limits(design) and max(map(len, design.kinds)) <= most_steps
                and max(map(len, design.readers)) <= reader_steps):
            return design


def fence_design(rng, most=5, least=1):
    """A design in which stores wait, with some places for fences."""
    while True:
        design = near_design(rng)
        if rng.random() < 0.3:
            design = random_design(rng, reader_steps=5, flavour=rng.choice(["ages", "mixed", "marks"]))
        design = design.with_rooms(rng.choice([(1, 1), (1, 1), (1, 0), (0, 1)]))
        if least <= len(places(design)) <= most:
            return design


def all_parts(things):
    """All parts of some ascending things as tuples, shorter ones first, then ascending."""
    return [lot for many in range(len(things) + 1) for lot in itertools.combinations(things, many)]


def least_of(lots):
    """Those lots of which no proper part is one of them."""
    return tuple(lot for lot in lots if not any(set(one) < set(lot) for one in lots))


def renamed(design, names):
    """The same design with other names of slots, counters, kinds and readers."""
    lines = []
    for line in str(design).split("\n"):
        words = []
        for word in line.replace(",", " ,").replace(":", " :").split(" "):
            words.append(names.get(word, word))
        lines.append(" ".join(words).replace(" ,", ",").replace(" :", ":"))
    return Design.read("\n".join(lines))


OTHER_NAMES = {"s": "x", "t": "y", "c": "d", "k": "m", "l": "n", "r": "v", "n": "w", "o": "z"}


def one_slot_design(rng, reader_steps=5):
    """A design with one slot that can be joined with another one."""
    while True:
        if rng.random() < 0.5:
            design = near_design(rng, 6, 6)
        else:
            design = random_design(rng, most_steps=5, reader_steps=reader_steps)
        if len(design.slots) == 1:
            return design


def joining_pair(rng):
    """Two designs that can be joined; within the limits of joined ones."""
    while True:
        one = one_slot_design(rng)
        other = renamed(one_slot_design(rng), OTHER_NAMES).with_rooms(one.rooms).with_reuse(one.reuse)
        if rng.random() < 0.7:
            one, other = one.with_rooms((one.rooms[0], 0)), other.with_rooms((one.rooms[0], 0))
        frees = any(text.endswith("free") for kind in one.kinds + other.kinds for text in kind.texts)
        tries = any("try" in kind.texts for kind in one.kinds + other.kinds)
        if len(one.counters) + len(other.counters) > 1 or len(one.wide) + len(other.wide) > 1:
            one, other = without_numbers(one), without_numbers(other)
        if one is None or other is None or frees and tries:
            continue
        if frees and one.reuse == "any" and not marks_all_slots(joined(one, other)):
            continue
        if max(len(reader) for reader in one.readers + other.readers) <= 6:
            return one, other


def without_numbers(design):
    """The design without counters and stamps, None if its scripts speak of them."""
    if design is None or any(script.counters for script in design.kinds + design.readers):
        return None
    return design.with_rounds([]).with_wide([])
