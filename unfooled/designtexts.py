"""The lines of a design's text, and the first one that has not its form."""

from unfooled.errors import InvalidText
from unfooled.kinds import kind_words
from unfooled.readers import reader_words
from unfooled.words import is_digits, is_name

REUSES = ("any", "never")


def names_told(line, head):
    """The names of a line such as `slots s t`, or None."""
    words = line.split(" ")
    if words[0] != head or len(words) < 2 or not all([is_name(word) for word in words[1:]]):
        return None
    return words[1:]


def size_told(text, has_none):
    """A pair of one size (None for a bare one), or None if the text is no size."""
    if text == "-" and has_none:
        return (None,)
    return (int(text),) if is_digits(text) else None


def pairs_told(line, head, has_none):
    """The pairs of a line such as `rounds c 4, d -`, or None."""
    word, _, tail = line.partition(" ")
    if word != head:
        return None
    if tail == "-":
        return []
    found = []
    for text in tail.split(", "):
        name, _, size = text.partition(" ")
        told = size_told(size, has_none)
        if not is_name(name) or told is None:
            return None
        found.append((name, told[0]))
    return found


def rooms_told(line):
    words = line.split(" ")
    if words[0] != "rooms" or len(words) != 3 or not all([is_digits(word) for word in words[1:]]):
        return None
    return int(words[1]), int(words[2])


def reuse_told(line):
    words = line.split(" ")
    return words[1] if words[0] == "reuse" and words[1:] in (["any"], ["never"]) else None


def line_told(line, at):
    """What one of the six first lines tells, or None if it has not its form."""
    if at < 2:
        return names_told(line, ("slots", "parts")[at])
    if at < 4:
        return pairs_told(line, ("rounds", "wide")[at - 2], at == 2)
    return rooms_told(line) if at == 4 else reuse_told(line)


def head_told(lines):
    """What the six first lines tell."""
    found = []
    for at in range(6):
        told = line_told(lines[at], at) if at < len(lines) else None
        if told is None:
            raise InvalidText(at)
        found.append(told)
    return found


def scripts_told(lines):
    """The words of the kinds and those of the readers behind the six first lines."""
    kinds = []
    readers = []
    for at in range(6, len(lines)):
        told = kind_words(lines[at]) if readers == [] else None
        if told is not None:
            kinds.append(told)
            continue
        told = reader_words(lines[at])
        if told is None or kinds == []:
            raise InvalidText(at)
        readers.append(told)
    if readers == []:
        raise InvalidText(len(lines))
    return kinds, readers


def design_words(text):
    """What a text of a design tells: six values, the words of kinds, the words of readers."""
    if not isinstance(text, str):
        raise InvalidText(0)
    lines = text.split("\n")
    head = head_told(lines)
    kinds, readers = scripts_told(lines)
    return head, kinds, readers
