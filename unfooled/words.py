"""What an integer, a number, a name and a sequence are, and how texts of steps are made."""

LETTERS = "abcdefghijklmnopqrstuvwxyz"
DIGITS = "0123456789"


def is_integer(value):
    return isinstance(value, int) and not isinstance(value, bool)


def is_number(value):
    return is_integer(value) and value >= 0


def is_number_below(value, many):
    return is_number(value) and value < many


def is_name(value):
    return (isinstance(value, str) and 1 <= len(value) <= 4
            and all([letter in LETTERS for letter in value]))


def is_digits(text):
    """Whether a text tells a number: at most four digits, no leading zero."""
    return (1 <= len(text) <= 4 and all([letter in DIGITS for letter in text])
            and (text == "0" or text[0] != "0"))


def is_sequence(value):
    return isinstance(value, (list, tuple))


def is_row_of(value, many):
    """Whether a value is a tuple of so many things."""
    return isinstance(value, tuple) and len(value) == many


def fits_role(word, role):
    return is_digits(word) if role == "number" else is_name(word)


def has_form(words, roles):
    """Whether the words behind the first one are what the roles ask for (None: no such form)."""
    if roles is None or len(words) != len(roles) + 1:
        return False
    return all([fits_role(word, role) for word, role in zip(words[1:], roles)])


def lot_of_role(texts, forms, role):
    """The lot of all words that stand in a role in one of the texts."""
    found = {}
    for text in texts:
        words = text.split(" ")
        for word, told in zip(words[1:], forms[words[0]]):
            if told == role:
                found[word] = True
    return tuple(sorted(found))


def split_script(text):
    """The words ahead of the colon and the texts behind it, or None if there is no colon."""
    if not isinstance(text, str):
        return None
    head, colon, tail = text.partition(": ")
    if colon == "":
        return None
    return head.split(" "), tail.split(", ")


def with_text(texts, at, text):
    return [*texts[:at], text, *texts[at:]]


def without_text(texts, at):
    return [*texts[:at], *texts[at + 1:]]


def is_lot_of_numbers(value, many):
    """Whether a value is an ascending tuple of different numbers below this one."""
    return (isinstance(value, tuple) and all([is_number_below(number, many) for number in value])
            and list(value) == sorted(set(value)))
