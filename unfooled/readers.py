"""Readers: small scripts that look at slots, cells and counters without locks."""

from unfooled.errors import InvalidReader, InvalidText, NoStep
from unfooled.words import (has_form, is_name, is_number_below, is_sequence, lot_of_role,
                            split_script, with_text, without_text)

FORMS = {"enter": (), "leave": (), "mark": ("mark", "slot"), "clear": ("mark",), "fence": (),
         "read": ("slot",), "use": ("slot", "part"), "num": ("counter",), "look": ("slot",),
         "same": ("number", "number"), "even": ("number",)}
WORDS = ("once", "again")
COMPARING = ("same", "even")
STORES = ("enter", "leave", "mark", "clear")
CHECKS = ("look", "same", "even")
# The steps that look at the world and tell something of it.
TELLING = ("use", "look", "num")


def is_reader_step(text):
    if not isinstance(text, str):
        return False
    words = text.split(" ")
    return has_form(words, FORMS.get(words[0]))


def numbers_in_check(text):
    """The numbers of steps that a text of a check same or even names; none for other steps."""
    words = text.split(" ")
    return [int(word) for word in words[1:]] if words[0] in COMPARING else []


def compares_right(numbers, counters):
    """Whether numbers ascend and are all steps num of one counter (counters: by step)."""
    if numbers != sorted(numbers) or len(numbers) == 2 and numbers[0] == numbers[1]:
        return False
    asked = [counters.get(number) for number in numbers]
    return None not in asked and asked[0] == asked[-1]


def steps_go_right(texts):
    """Whether each step finds ahead of it what it speaks of, and each slot is read once."""
    was_read = {}
    counters = {}
    for at, text in enumerate(texts):
        words = text.split(" ")
        if words[0] in COMPARING and not compares_right(numbers_in_check(text), counters):
            return False
        if words[0] == "read" and words[1] in was_read:
            return False
        if words[0] in ("use", "look") and words[1] not in was_read:
            return False
        if words[0] == "mark" and words[2] not in was_read:
            return False
        if words[0] == "read":
            was_read[words[1]] = True
        if words[0] == "num":
            counters[at] = words[1]
    return True


def is_reader_script(texts):
    return (is_sequence(texts) and len(texts) > 0
            and all([is_reader_step(text) for text in texts]) and steps_go_right(texts))


def reader_words(text):
    """The name, the texts of steps and the word that a text of a reader tells, or None."""
    told = split_script(text)
    if told is None:
        return None
    head, texts = told
    if len(head) != 3 or head[0] != "reader" or not is_name(head[1]) or head[2] not in WORDS:
        return None
    if not all([is_reader_step(step) for step in texts]):
        return None
    return head[1], texts, head[2]


def moved_text(text, at, by):
    """The text of a step; in checks numbers of steps from `at` on are changed by `by`."""
    numbers = numbers_in_check(text)
    if numbers == []:
        return text
    moved = [str(number + by if number >= at else number) for number in numbers]
    return " ".join([text.split(" ")[0], *moved])


class Reader:
    """A kind of readers: a name, the texts of its steps, and what a check leads to."""

    def __init__(self, name, texts, word="once"):
        if not is_name(name):
            raise InvalidReader("name")
        if not is_reader_script(texts):
            raise InvalidReader("texts")
        if not isinstance(word, str) or word not in WORDS:
            raise InvalidReader("word")
        self.name = name
        self.texts = tuple(texts)
        self.word = word
        forms = dict(FORMS)
        self.slots = lot_of_role(texts, forms, "slot")
        self.parts = lot_of_role(texts, forms, "part")
        self.counters = lot_of_role(texts, forms, "counter")

    @staticmethod
    def read(text):
        told = reader_words(text)
        if told is None:
            raise InvalidText(0)
        return Reader(told[0], told[1], told[2])

    def without(self, at):
        if not is_number_below(at, len(self.texts)):
            raise NoStep(at)
        texts = without_text(self.texts, at)
        if any([at in numbers_in_check(text) for text in texts]):
            raise InvalidReader("texts")
        return Reader(self.name, [moved_text(text, at, -1) for text in texts], self.word)

    def with_more(self, at, text):
        if not is_number_below(at, len(self.texts) + 1):
            raise NoStep(at)
        moved = [moved_text(step, at, 1) for step in self.texts]
        return Reader(self.name, with_text(moved, at, text), self.word)

    def with_word(self, word):
        return Reader(self.name, self.texts, word)

    def __len__(self):
        return len(self.texts)

    def __str__(self):
        return f"reader {self.name} {self.word}: {', '.join(self.texts)}"

    def __eq__(self, other):
        return isinstance(other, Reader) and str(self) == str(other)
