"""Designs: slots, parts, counters, kinds of updates and readers that belong together."""

from unfooled.designtexts import REUSES, design_words
from unfooled.errors import InvalidDesign, NoName
from unfooled.kinds import Kind
from unfooled.memory import Memory
from unfooled.readers import Reader
from unfooled.words import is_integer, is_name, is_number, is_row_of, is_sequence


def are_unlike(names):
    return len(set(names)) == len(names)


def are_names(value):
    return (is_sequence(value) and len(value) > 0 and all([is_name(name) for name in value])
            and are_unlike(value))


def go_together(scripts, slots, parts):
    """Whether scripts have different names, and speak of these slots and parts alone."""
    return (len(scripts) > 0 and are_unlike([script.name for script in scripts])
            and all([slot in slots for script in scripts for slot in script.slots])
            and all([part in parts for script in scripts for part in script.parts]))


def are_kinds(value, slots, parts):
    return (is_sequence(value) and all([isinstance(kind, Kind) for kind in value])
            and go_together(value, slots, parts))


def are_readers(value, slots, parts):
    return (is_sequence(value) and all([isinstance(reader, Reader) for reader in value])
            and go_together(value, slots, parts))


def is_size(value):
    return is_integer(value) and 2 <= value <= 8


def are_named_pairs(value):
    """Whether a value is a sequence of pairs whose first things are different names."""
    return (is_sequence(value)
            and all([is_row_of(pair, 2) and is_name(pair[0]) for pair in value])
            and are_unlike([pair[0] for pair in value]))


def are_rounds(value, scripts):
    if not are_named_pairs(value):
        return False
    if not all([size is None or is_size(size) for _, size in value]):
        return False
    told = [name for name, _ in value]
    return all([counter in told for script in scripts for counter in script.counters])


def are_wide(value, slots):
    return are_named_pairs(value) and all([name in slots and is_size(size) for name, size in value])


def are_rooms(value):
    return is_row_of(value, 2) and is_number(value[0]) and is_number(value[1])


def wrong_part(slots, parts, kinds, readers):
    """The first of these arguments of a design that is wrong, or an empty word."""
    if not are_names(slots):
        return "slots"
    if not are_names(parts):
        return "parts"
    if not are_kinds(kinds, slots, parts):
        return "kinds"
    return "" if are_readers(readers, slots, parts) else "readers"


def wrong_measure(slots, scripts, rounds, wide, rooms):
    """The first of the sizes of a design that is wrong, or an empty word."""
    if not are_rounds(rounds, scripts):
        return "rounds"
    if not are_wide(wide, slots):
        return "wide"
    return "" if are_rooms(rooms) else "rooms"


def put_in(scripts, script):
    """The scripts with this one in the place of the one with its name, or behind all."""
    if not isinstance(script, (Kind, Reader)):
        return [*scripts, script]
    names = [one.name for one in scripts]
    if script.name not in names:
        return [*scripts, script]
    return [script if one.name == script.name else one for one in scripts]


def named(scripts, name):
    """The script with this name."""
    for script in scripts:
        if isinstance(name, str) and script.name == name:
            return script
    raise NoName(name)


def told_pairs(pairs):
    told = [f"{name} {'-' if size is None else size}" for name, size in pairs]
    return ", ".join(told) if told else "-"


class Design:
    """A house: its slots, parts, counters and rooms, its kinds of updates and its readers."""

    def __init__(self, slots, parts, kinds, readers, rounds=(), wide=(), rooms=(0, 0), reuse="any"):
        wrong = wrong_part(slots, parts, kinds, readers)
        if wrong == "":
            wrong = wrong_measure(slots, [*kinds, *readers], rounds, wide, rooms)
        if wrong == "" and (not isinstance(reuse, str) or reuse not in REUSES):
            wrong = "reuse"
        if wrong != "":
            raise InvalidDesign(wrong)
        self.slots = tuple(sorted(slots))
        self.parts = tuple(sorted(parts))
        self.kinds = tuple(kinds)
        self.readers = tuple(readers)
        self.rounds = tuple(sorted(rounds, key=lambda pair: pair[0]))
        self.wide = tuple(sorted(wide, key=lambda pair: pair[0]))
        self.rooms = rooms
        self.reuse = reuse
        self.counters = tuple([name for name, _ in self.rounds])
        # What was worked out: it tells nothing that the design itself does not tell.
        self.memory = Memory()

    @staticmethod
    def read(text):
        head, kinds, readers = design_words(text)
        made_kinds = [Kind(name, texts) for name, texts in kinds]
        made_readers = [Reader(name, texts, word) for name, texts, word in readers]
        slots, parts, rounds, wide, rooms, reuse = head
        return Design(slots, parts, made_kinds, made_readers, rounds, wide, rooms, reuse)

    def kind(self, name):
        return named(self.kinds, name)

    def reader(self, name):
        return named(self.readers, name)

    def with_kind(self, kind):
        return Design(self.slots, self.parts, put_in(self.kinds, kind), self.readers,
                      self.rounds, self.wide, self.rooms, self.reuse)

    def with_reader(self, reader):
        return Design(self.slots, self.parts, self.kinds, put_in(self.readers, reader),
                      self.rounds, self.wide, self.rooms, self.reuse)

    def with_rounds(self, rounds):
        return Design(self.slots, self.parts, self.kinds, self.readers,
                      rounds, self.wide, self.rooms, self.reuse)

    def with_wide(self, wide):
        return Design(self.slots, self.parts, self.kinds, self.readers,
                      self.rounds, wide, self.rooms, self.reuse)

    def with_rooms(self, rooms):
        return Design(self.slots, self.parts, self.kinds, self.readers,
                      self.rounds, self.wide, rooms, self.reuse)

    def with_reuse(self, reuse):
        return Design(self.slots, self.parts, self.kinds, self.readers,
                      self.rounds, self.wide, self.rooms, reuse)

    def __str__(self):
        lines = [f"slots {' '.join(self.slots)}", f"parts {' '.join(self.parts)}",
                 f"rounds {told_pairs(self.rounds)}", f"wide {told_pairs(self.wide)}",
                 f"rooms {self.rooms[0]} {self.rooms[1]}", f"reuse {self.reuse}"]
        scripts = [str(script) for script in [*self.kinds, *self.readers]]
        return "\n".join([*lines, *scripts])

    def __eq__(self, other):
        return isinstance(other, Design) and str(self) == str(other)
