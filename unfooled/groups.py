"""Groups of equal numbers: what checks that say yes lead to."""


class Groups:
    """Which of some numbers must be equal, and which ones must be even."""

    def __init__(self, many):
        self.heads = list(range(many))
        self.evens = [False for _ in range(many)]

    def learn(self, check):
        """A check (a row of one number for even, of two for same) says yes."""
        head = self.heads[check[0]]
        if len(check) == 1:
            self.evens[head] = True
            return
        other = self.heads[check[1]]
        low, high = min(head, other), max(head, other)
        self.evens[low] = self.evens[head] or self.evens[other]
        self.heads = [low if one == high else one for one in self.heads]

    def leads_to(self, check):
        """Whether what was learnt makes the check say yes."""
        if len(check) == 1:
            return self.evens[self.heads[check[0]]]
        return self.heads[check[0]] == self.heads[check[1]]

    def numbers(self, odd):
        """Some numbers, equal only where they must be, and even but for the group of `odd`."""
        found = [2 * head for head in self.heads]
        if odd is not None:
            found = [number + 1 if self.heads[odd] == head else number
                     for number, head in zip(found, self.heads)]
        return tuple(found)


def groups_behind(many, checks):
    groups = Groups(many)
    for check in checks:
        groups.learn(check)
    return groups
