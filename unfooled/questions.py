"""Questions about the try that goes on, and their answers for single standings and for lots."""

from unfooled.errors import InvalidWord
from unfooled.sights import OVER, sights_of
from unfooled.ways import reached

PLAIN = ("amid", "used", "good")
OF_SLOTS = ("hangs", "over")
# Those whose answers hang on what the run used.
OF_USES = ("used", "good")
BAD = ("used", "torn")


def check_question(reader, value):
    """The error for any value that is no question about this reader."""
    told = [(word,) for word in PLAIN] + [(word, slot) for word in OF_SLOTS for slot in reader.slots]
    if not isinstance(value, tuple) or repr(value) not in [repr(question) for question in told]:
        raise InvalidWord()


class Goods:
    """Which standings are good: this try has not met used, and neither meets it, nor ends torn."""

    def __init__(self, sights):
        self.sights = sights
        self.known = {}

    def is_good(self, number):
        if number not in self.known:
            self.settle(number)
        return self.known[number]

    def nexts_in_try(self, number):
        """What comes next in the same try."""
        sights = self.sights
        found = sights.unseen_behind(number)
        told = sights.seen_at(number)
        if told is None or told[1] == OVER or sights.standings[told[1]][5][0] == 0:
            return found
        return [*found, told[1]]

    def is_bad_now(self, number):
        told = self.sights.seen_at(number)
        if self.sights.standings[number][5][5] == "spoilt":
            return True
        return told is not None and any([harm in BAD for harm in told[2]])

    def settle(self, first):
        """Find out whether a standing, and all that come of it in this try, are good."""
        known = self.known
        new = reached([first], lambda number: [] if number in known else self.nexts_in_try(number))
        ahead = {number: [] for number in new}
        for number in new:
            for behind in self.nexts_in_try(number):
                if behind in ahead:
                    ahead[behind].append(number)
        bad = reached([number for number in new if self.is_bad_now(number) or not known.get(number, True)],
                      lambda number: ahead[number])
        for number in new:
            known[number] = True
        for number in bad:
            known[number] = False


class Answers:
    """The answers to one question about a reader's try; `sights` are those that tell them."""

    def __init__(self, design, name, question):
        self.question = question
        self.sights = sights_of(design, name, question[0] not in OF_USES)
        self.goods = None
        if question == ("good",):
            goods = design.memory.goods
            if name not in goods:
                goods[name] = Goods(self.sights)
            self.goods = goods[name]

    def is_yes(self, number):
        """The answer for the standing with this number."""
        word = self.question[0]
        if word == "good":
            return self.goods.is_good(number)
        standing = self.sights.standings[number]
        if word == "amid":
            return standing[0][0] != ""
        if word == "used":
            return standing[5][5] == "spoilt"
        return self.is_so_there(standing, word)

    def is_so_there(self, standing, word):
        """The answer to a question of a slot."""
        slot = self.question[1]
        for one, cell, state, _, _ in standing[5][1]:
            if one == slot and word == "over":
                return state != "living"
            if one == slot:
                return state == "living" and standing[2][self.sights.plan.places[slot]][0] == cell
        return False

    def word_behind(self, lot):
        """The word for a lot of standings."""
        told = [self.is_yes(number) for number in self.sights.lots[lot]]
        if all(told):
            return "surely"
        return "open" if any(told) else "never"

    def is_open(self, lot):
        return self.word_behind(lot) == "open"
