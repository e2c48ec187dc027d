"""Kinds of updates: small scripts that take cells, hang them and give them back."""

from unfooled.errors import InvalidKind, InvalidText, NoStep
from unfooled.words import (has_form, is_name, is_number_below, is_sequence, lot_of_role,
                            split_script, with_text, without_text)

FORMS = {"take": (), "write": ("part",), "put": ("slot",), "over": ("slot", "part"),
         "bump": ("counter",), "aside": (), "move": (), "try": (), "wait": (),
         "give": ("number",), "fence": ()}
STORES = ("write", "put", "over", "bump")


def is_kind_step(text):
    if not isinstance(text, str):
        return False
    words = text.split(" ")
    if words[0] == "give" and words[2:] == ["free"]:
        words = words[:2]
    return has_form(words, FORMS.get(words[0]))


def hand_goes_right(texts):
    """Whether each step finds the hand as it wants it, and the last one leaves it empty."""
    is_full = False
    for text in texts:
        word = text.split(" ")[0]
        if word == "take" and is_full or word in ("write", "put") and not is_full:
            return False
        if word in ("take", "put"):
            is_full = word == "take"
    return not is_full


def is_kind_script(texts):
    return (is_sequence(texts) and len(texts) > 0
            and all([is_kind_step(text) for text in texts]) and hand_goes_right(texts))


def kind_words(text):
    """The name and the texts of steps that a text of a kind tells, or None."""
    told = split_script(text)
    if told is None:
        return None
    head, texts = told
    if len(head) != 2 or head[0] != "kind" or not is_name(head[1]):
        return None
    if not all([is_kind_step(step) for step in texts]):
        return None
    return head[1], texts


class Kind:
    """A kind of updates: a name, and the texts of its steps."""

    def __init__(self, name, texts):
        if not is_name(name):
            raise InvalidKind("name")
        if not is_kind_script(texts):
            raise InvalidKind("texts")
        self.name = name
        self.texts = tuple(texts)
        forms = dict(FORMS)
        self.slots = lot_of_role(texts, forms, "slot")
        self.parts = lot_of_role(texts, forms, "part")
        self.counters = lot_of_role(texts, forms, "counter")

    @staticmethod
    def read(text):
        told = kind_words(text)
        if told is None:
            raise InvalidText(0)
        return Kind(told[0], told[1])

    def without(self, at):
        if not is_number_below(at, len(self.texts)):
            raise NoStep(at)
        return Kind(self.name, without_text(self.texts, at))

    def with_more(self, at, text):
        if not is_number_below(at, len(self.texts) + 1):
            raise NoStep(at)
        return Kind(self.name, with_text(self.texts, at, text))

    def __len__(self):
        return len(self.texts)

    def __str__(self):
        return f"kind {self.name}: {', '.join(self.texts)}"

    def __eq__(self, other):
        return isinstance(other, Kind) and str(self) == str(other)
