"""Designs that are clear of some harms, and stories of those that are not."""

from unfooled.errors import InvalidEvent, InvalidHarm, Refused
from unfooled.faults import story
from unfooled.papers import HARMS
from unfooled.roads import Roads
from unfooled.stage import play
from unfooled.words import is_sequence


def is_harm(value):
    """Whether any value is a harm other than back."""
    return isinstance(value, str) and value in HARMS


def check_harms(value):
    """The error for any value that is no lot of harms."""
    if not isinstance(value, tuple) or not all([is_harm(harm) for harm in value]):
        raise InvalidHarm()
    if list(value) != sorted(set(value)):
        raise InvalidHarm()


def harm_met(design, reader, harms):
    """One of these harms that happens to this reader, or None."""
    return Roads(design, reader, harms).first_met()


def clears_all(design, harms):
    """Whether none of these harms happens to a reader."""
    for reader in design.readers:
        if harm_met(design, reader, harms) is not None:
            return False
    return True


def some_story(design, harms):
    """Some triple (reader's name, harm, story) with one of these harms, or None."""
    for reader in design.readers:
        harm = harm_met(design, reader, harms)
        if harm is not None:
            return reader.name, harm, story(design, reader.name, harm)
    return None


def tells_harm(design, name, harm, value):
    """Whether any value is a row of events whose last one meets this harm, as a step of a reader
    with this name."""
    if not is_sequence(value) or len(value) == 0:
        return False
    try:
        seen = play(design, value)
    except (InvalidEvent, Refused):
        return False
    words = value[-1].split(" ")
    if words[0] != "next" or seen.readers[int(words[1])][0] != name:
        return False
    return (len(value) - 1, harm) in seen.met


def is_telling(design, harms, name, harm, value):
    """Whether any values are the name of a reader, one of these harms, and a story of it."""
    if not isinstance(name, str) or name not in [reader.name for reader in design.readers]:
        return False
    if not isinstance(harm, str) or harm not in harms:
        return False
    return tells_harm(design, name, harm, value)
