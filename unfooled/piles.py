"""Piles: how many cells are in the hand, out, and laid aside since so many ages."""

def empty(oldest):
    return (0, 0, tuple([0 for _ in range(oldest + 1)]))


def heap_of(pile):
    hand, out, aside = pile
    return hand + out + sum(aside)


def pile_behind(words, pile):
    """The pile behind a step."""
    hand, out, aside = pile
    if words[0] == "take":
        return (1, out, aside)
    if words[0] == "put":
        return (0, out + 1, aside)
    if words[0] == "aside":
        return (hand, 0, (aside[0] + out, *aside[1:]))
    if words[0] in ("move", "try") and len(aside) > 1:
        return (hand, out, (0, *aside[:-2], aside[-2] + aside[-1]))
    if words[0] == "give":
        return (hand, out, tuple([0 if age >= words[1] else many for age, many in enumerate(aside)]))
    return pile


def rows_behind(steps, pile):
    """The piles behind each of these steps."""
    found = []
    for words in steps:
        pile = pile_behind(words, pile)
        found.append(pile)
    return found


def grown_by(steps, oldest):
    """By how many cells the heap is greater behind each further update with these steps."""
    pile = empty(oldest)
    heaps = [0]
    # Each update makes a cell elder, or leaves it for good: so soon all goes on alike.
    for _ in range(oldest + 5):
        pile = rows_behind(steps, pile)[-1]
        heaps.append(heap_of(pile))
    return heaps[-1] - heaps[-2]
