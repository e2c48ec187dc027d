"""The stage: histories are played event by event."""

from unfooled.errors import InvalidEvent, Refused
from unfooled.scene import Scene, event_words
from unfooled.words import is_sequence


class Played:
    """All that is told of a house behind some events."""

    def __init__(self, scene):
        house = scene.house
        slots = scene.design.slots
        self.age = house.age
        self.hung = tuple([house.hung[slot] for slot in slots])
        self.stamps = tuple([house.stamps[slot] for slot, _ in scene.design.wide])
        self.lives = tuple([house.lives[cell] for cell in self.hung])
        self.contents = house.view()
        self.counts = tuple([house.counts[counter] for counter in scene.design.counters])
        self.hand = house.hand
        self.out = tuple(sorted(house.out))
        self.pile = tuple(sorted(house.pile))
        self.back = tuple(house.back)
        self.going = going_told(house)
        self.waiting = house.waiting_texts()
        self.readers = tuple([guest_told(guest) for guest in scene.guests])
        self.runs = tuple(scene.runs)
        self.met = tuple(sorted(scene.met))


def going_told(house):
    return None if house.script is None else (house.script.name, house.done, house.number)


def guest_told(guest):
    marks = tuple(sorted([(mark, guest.marks[mark]) for mark in guest.marks]))
    return guest.script.name, guest.done, guest.shown, marks, len(guest.buffer)


def scene_behind(design, events):
    """The scene behind these events; the errors of `play`."""
    if not is_sequence(events):
        raise InvalidEvent(0)
    rows = [event_words(design, event) for event in events]
    for at, words in enumerate(rows):
        if words is None:
            raise InvalidEvent(at)
    scene = Scene(design)
    for at, words in enumerate(rows):
        if not scene.may(words):
            raise Refused(at)
        scene.do(words)
    return scene


def play(design, events):
    return Played(scene_behind(design, events))


def possible(design, events):
    scene = scene_behind(design, events)
    guests = range(len(scene.guests))
    texts = ["step", "flush"]
    texts = texts + [f"start {reader.name}" for reader in design.readers]
    texts = texts + [f"begin {kind.name}" for kind in design.kinds]
    texts = texts + [f"{word} {at}" for word in ("next", "drain") for at in guests]
    texts = texts + [f"step {cell}" for cell in scene.house.back]
    return tuple(sorted([text for text in texts if scene.may(event_words(design, text))]))
