"""Histories with a number of turns amid a reading."""

from unfooled.stands import question_of, stand_moves
from unfooled.turns import is_in, numbers_amid


def way_to(question, number):
    """The events, told as in moves of stands, up to the check, with so many turns."""
    rows = [(question.beginning(), 0)]
    came = {rows[0]: None}
    at = 0
    while at < len(rows):
        node = rows[at]
        at = at + 1
        stand, turns = node
        if turns == number and question.is_asked(stand):
            return events_to(came, node)
        for event, behind, is_turn in stand_moves(question, stand):
            after = (behind, turns + 1 if is_turn else turns)
            if after[1] <= number and after not in came:
                came[after] = (node, event)
                rows.append(after)
    return []


def events_to(came, node):
    found = []
    while came[node] is not None:
        node, event = came[node]
        found.append(event)
    return found[::-1]


class Stepper:
    """Which cells hang and are taken along some events."""

    def __init__(self, question):
        self.question = question
        self.hung = {slot: at for at, slot in enumerate(question.slots)}
        self.fresh = len(question.slots)
        self.hand = None
        self.watched = None
        self.script = ()
        self.done = 0
        self.at = 0

    def on_stage(self, event):
        """The event as the stage knows it."""
        if event == "next":
            if self.question.steps[self.at] == ("read", self.question.slot):
                self.watched = self.hung[self.question.slot]
            self.at = self.at + 1
            return "next 0"
        if event.startswith("begin "):
            self.script = self.question.scripts[event.split(" ")[1]]
            self.done = 0
            return event
        words = self.script[self.done]
        self.done = self.done + 1
        if words[0] == "put":
            self.hung[words[1]] = self.hand
        if words[0] != "take":
            return "step"
        if event == "back":
            self.hand = self.watched
            return f"step {self.watched}"
        self.hand = self.fresh
        self.fresh = self.fresh + 1
        return "step"


def road_for(question, name, number):
    if not is_in(numbers_amid(question), number):
        return None
    stepper = Stepper(question)
    told = [stepper.on_stage(event) for event in way_to(question, number)]
    return (f"start {name}", *told, "next 0")


def turn_road(design, name, at, number):
    return road_for(question_of(design, name, at, "same"), name, number)


def put_road(design, name, at, number):
    return road_for(question_of(design, name, at, "look"), name, number)
