"""A desk: a design and a live stage that are led by commands."""

from unfooled.changes import breaking, changed
from unfooled.designs import Design
from unfooled.errors import InvalidCommand
from unfooled.faults import faults_of
from unfooled.live import Live
from unfooled.logs import log_fits, next_rows, word_for
from unfooled.words import is_digits


def told_thing(word):
    """What a word of a row, a question or a change tells."""
    return int(word) if is_digits(word) else word


def told_tuple(text):
    return tuple([told_thing(word) for word in text.split("/")])


def log_told(texts):
    return tuple([told_tuple(text) for text in texts])


def text_of(value):
    """A row or a change as it is written in a command."""
    return "/".join([str(thing) for thing in value])


def listed(texts, none):
    """Some texts, separated by spaces; a word if there are none."""
    return " ".join(texts) if len(texts) > 0 else none


def keep(desk, design):
    desk.design = design
    desk.live = Live(design)


def say_design(desk, words):
    design = Design.read(" ".join(words).replace(" ; ", "\n"))
    keep(desk, design)
    return str(len(design.readers))


def say_do(desk, words):
    return listed(desk.live.do(" ".join(words)), "fine")


def say_undo(desk, words):
    return "undone" if desk.live.undo() else "nothing"


def say_hung(desk, words):
    return " ".join([str(cell) for cell in desk.live.played.hung])


def say_harms(desk, words):
    return listed(faults_of(desk.design, words[0]), "none")


def say_fits(desk, words):
    return "yes" if log_fits(desk.design, words[0], log_told(words[1:])) else "no"


def say_next(desk, words):
    rows = next_rows(desk.design, words[0], log_told(words[1:]))
    return listed([text_of(row) for row in rows], "none")


def say_word(desk, words):
    return word_for(desk.design, words[0], log_told(words[2:]), told_tuple(words[1]))


def say_break(desk, words):
    return listed([text_of(change) for change in breaking(desk.design, words[0])], "none")


def say_change(desk, words):
    design = changed(desk.design, words[0], told_tuple(words[1]))
    told = listed(faults_of(design, words[0]), "none")
    keep(desk, design)
    return told


ACTIONS = {"design": say_design, "do": say_do, "undo": say_undo, "hung": say_hung, "harms": say_harms,
           "fits": say_fits, "next": say_next, "word": say_word, "break": say_break, "change": say_change}
# How many words stand behind the first one: at least, and whether there may be more.
FORMS = {"design": (1, True), "do": (1, True), "undo": (0, False), "hung": (0, False), "harms": (1, False),
         "fits": (1, True), "next": (1, True), "word": (2, True), "break": (1, False), "change": (2, False)}


def words_of(command):
    """The words of any value as a command; the error if it has no form of one."""
    if not isinstance(command, str) or "\n" in command:
        raise InvalidCommand()
    words = command.split(" ")
    form = FORMS.get(words[0])
    if "" in words or form is None:
        raise InvalidCommand()
    least, is_more = form
    if len(words) - 1 < least or len(words) - 1 > least and not is_more:
        raise InvalidCommand()
    return words


class Desk:
    """A design and a live stage, both None as long as no design was told."""

    def __init__(self):
        self.design = None
        self.live = None

    def say(self, command):
        words = words_of(command)
        if self.design is None and words[0] != "design":
            raise InvalidCommand()
        action = ACTIONS[words[0]]
        return action(self, words[1:])
