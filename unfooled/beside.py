"""Two readings behind one another, and what a reader feels of the house."""

from unfooled.designs import Design
from unfooled.errors import NoName
from unfooled.faults import happens, story
from unfooled.kinds import Kind
from unfooled.lots import least_lots
from unfooled.readers import Reader, moved_text
from unfooled.words import LETTERS, is_name


def behind(one, other, name):
    moved = [moved_text(text, 0, len(one)) for text in other.texts]
    return Reader(name, [*one.texts, *moved], "once")


def names_in(design):
    """All names of slots, parts, counters, kinds and readers."""
    scripts = [script.name for script in [*design.kinds, *design.readers]]
    return [*design.slots, *design.parts, *design.counters, *scripts]


def new_name(design):
    """The first of the names a, .., z, aa, ab, .. that nothing in the design has."""
    taken = names_in(design)
    names = [*LETTERS, *[first + second for first in LETTERS for second in LETTERS]]
    return [name for name in names if name not in taken][0]


def with_both(design, one, other, name):
    first = design.reader(one)
    second = design.reader(other)
    if not is_name(name) or name in names_in(design):
        raise NoName(name)
    return design.with_reader(behind(first, second, name))


def with_new(design, one, other):
    """The design with a reader of both who has a new name."""
    design.reader(one)
    design.reader(other)
    return with_both(design, one, other, new_name(design))


def are_one(design, one, other):
    whole = with_new(design, one, other)
    return not happens(whole, new_name(design), "torn")


def two_moments(design, one, other):
    whole = with_new(design, one, other)
    return story(whole, new_name(design), "torn")


def bridges(design, one, other):
    slots = [*design.reader(one).slots, *design.reader(other).slots]
    return tuple([*[f"look {slot}" for slot in sorted(set(slots))],
                  *[f"same {counter}" for counter in design.counters]])


def with_bridges(both, lot):
    """The reader of both with these bridges."""
    told = [text.split(" ") for text in sorted(lot)]
    counters = [name for word, name in told if word == "same"]
    texts = [*[f"num {counter}" for counter in counters],
             *[moved_text(text, 0, len(counters)) for text in both.texts],
             *[f"look {name}" for word, name in told if word == "look"]]
    for at, counter in enumerate(counters):
        texts = [*texts, f"num {counter}", f"same {at} {len(texts)}"]
    return Reader(both.name, texts, both.word)


def bridged(design, one, other, lot):
    whole = with_new(design, one, other)
    return whole.with_reader(with_bridges(whole.readers[-1], lot))


def least_bridges(design, one, other):
    texts = bridges(design, one, other)
    name = new_name(design)
    if happens(bridged(design, one, other, texts), name, "torn"):
        return ()
    return least_lots(texts, lambda lot: not happens(bridged(design, one, other, lot), name, "torn"))


def is_felt(reader, text):
    """Whether a reader can feel this step of a kind."""
    words = text.split(" ")
    if words[0] in ("write", "over"):
        return words[-1] in reader.parts
    return words[0] != "bump" or words[1] in reader.counters


def felt_kind(kind, reader):
    # An update is over by its last step, so this one stays.
    texts = [text for text in kind.texts[:-1] if is_felt(reader, text)]
    return Kind(kind.name, [*texts, kind.texts[-1]])


def enters(reader):
    return "enter" in reader.texts


def entering(reader):
    """All that others feel of a reader who enters."""
    return Reader(reader.name, ["enter", "leave"], "once")


def felt(design, name):
    own = design.reader(name)
    kinds = [felt_kind(kind, own) for kind in design.kinds]
    readers = [reader if reader.name == name else entering(reader) for reader in design.readers
               if reader.name == name or enters(reader)]
    scripts = [*kinds, *readers]
    parts = [part for part in design.parts if any([part in script.parts for script in scripts])]
    rounds = [pair for pair in design.rounds if any([pair[0] in script.counters for script in scripts])]
    looked = [text.split(" ")[1] for text in own.texts if text.startswith("look ")]
    wide = [pair for pair in design.wide if pair[0] in looked]
    return Design(design.slots, parts if parts != [] else design.parts[:1], kinds, readers, rounds, wide,
                  design.rooms, design.reuse)
