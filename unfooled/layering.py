"""Lots of stands, one for each number of turns, until they come round."""

from unfooled.stands import stand_moves, starts_of


class Layers:
    """Stands by their numbers, and the lots (ascending rows of numbers) behind 0, 1, .. turns;
    behind the last lot the one with the number `back` comes again."""

    def __init__(self, question):
        self.question = question
        self.stands = []
        self.known = {}
        # For each stand the rows of those behind it without a turn, and with one.
        self.plain = []
        self.turned = []
        self.lots = []
        self.back = 0
        self.go_round()

    def number_of(self, stand):
        if stand not in self.known:
            self.known[stand] = len(self.stands)
            self.stands.append(stand)
        return self.known[stand]

    def lead_on(self, number):
        """Work out what comes behind a stand, if it is not known yet."""
        while len(self.plain) <= number:
            plain = []
            turned = []
            for _, behind, is_turn in stand_moves(self.question, self.stands[len(self.plain)]):
                if is_turn:
                    turned.append(self.number_of(behind))
                else:
                    plain.append(self.number_of(behind))
            self.plain.append(plain)
            self.turned.append(turned)

    def whole(self, firsts):
        """The lot of these stands, and all that come behind them without a turn."""
        found = {number: True for number in firsts}
        rows = list(found)
        while rows != []:
            number = rows.pop()
            self.lead_on(number)
            for behind in self.plain[number]:
                if behind not in found:
                    found[behind] = True
                    rows.append(behind)
        return tuple(sorted(found))

    def go_round(self):
        known = {}
        lot = self.whole([self.number_of(stand) for stand in starts_of(self.question)])
        while lot not in known:
            known[lot] = len(self.lots)
            self.lots.append(lot)
            lot = self.whole([behind for number in lot for behind in self.turned[number]])
        self.back = known[lot]

    def asked(self):
        """The numbers of the lots in which the check comes next."""
        stands = {number: True for number, stand in enumerate(self.stands)
                  if self.question.is_asked(stand)}
        return [at for at, lot in enumerate(self.lots) if any([number in stands for number in lot])]
