"""A house that goes on, event by event, and can be taken back."""

from unfooled.errors import InvalidEvent, Refused
from unfooled.stage import play, possible
from unfooled.words import is_sequence


def harms_at(played, at):
    return tuple([harm for index, harm in played.met if index == at])


class Live:
    """A design and the events so far; each change can be taken back."""

    def __init__(self, design):
        self.design = design
        self._events = ()
        self._played = play(design, ())
        # The pairs (events, played) ahead of each change, the oldest one first.
        self._past = ()

    @property
    def events(self):
        return self._events

    @property
    def played(self):
        return self._played

    def do(self, event):
        many = len(self._events)
        self._go_on((event,))
        return harms_at(self._played, many)

    def several(self, events):
        if not is_sequence(events):
            raise InvalidEvent(0)
        many = len(self._events)
        try:
            self._go_on(tuple(events))
        except InvalidEvent as wrong:
            raise InvalidEvent(wrong.at - many)
        except Refused as refusal:
            raise Refused(refusal.at - many)
        return tuple([harms_at(self._played, at) for at in range(many, len(self._events))])

    def _go_on(self, more):
        events = (*self._events, *more)
        played = play(self.design, events)
        self._past = (*self._past, (self._events, self._played))
        self._events = events
        self._played = played

    def can(self):
        return possible(self.design, self._events)

    def undo(self):
        if self._past == ():
            return False
        self._events, self._played = self._past[-1]
        self._past = self._past[:-1]
        return True

    def within(self, work):
        events = self._events
        played = self._played
        past = self._past
        try:
            return work(self)
        finally:
            self._events = events
            self._played = played
            self._past = past

    def __len__(self):
        return len(self._past)
