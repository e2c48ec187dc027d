"""Papers for numbers of turns: a lot of stands for each number, until they come round."""

from math import gcd

from unfooled.layering import Layers
from unfooled.stands import question_of, stand_moves, starts_of
from unfooled.turns import is_in
from unfooled.words import is_lot_of_numbers, is_number, is_number_below, is_row_of

SHOWN = ("none", "now", "past")


def paper_for(question):
    layers = Layers(question)
    lots = [tuple([layers.stands[number] for number in lot]) for lot in layers.lots]
    return tuple(lots), layers.back


def layer_paper(design, name, at):
    return paper_for(question_of(design, name, at, "same"))


def put_paper(design, name, at):
    return paper_for(question_of(design, name, at, "look"))


def has_least_period(period, rests):
    """Whether no part of the period is enough; rests are ascending numbers below it."""
    if rests == ():
        return period == 1
    known = {rest: True for rest in rests}
    # Going round by a part of the period, the rests fall into groups of one size.
    for many in range(2, len(rests) + 1):
        if period % many == 0 and all([(rest + period // many) % period in known for rest in rests]):
            return False
    return True


def is_quadruple(value):
    """Whether any value tells some numbers, its period and its tail as small as can be."""
    if not is_row_of(value, 4):
        return False
    below, tail, period, rests = value
    if not is_number(tail) or not is_number(period) or period == 0:
        return False
    if not is_lot_of_numbers(below, tail) or not is_lot_of_numbers(rests, period):
        return False
    return (has_least_period(period, rests)
            and (tail == 0 or is_in(value, tail - 1) != is_in(value, tail - 1 + period)))


def all_are_in(told, start, by):
    """Whether a number, and its sums with all multiples of another one, are told."""
    below, tail, period, rests = told
    many = max(0, (tail - start + by - 1) // by)
    if len([number for number in below if number >= start and (number - start) % by == 0]) != many:
        return False
    # From the tail on just those rests are met that are alike by this divisor.
    part = gcd(by, period)
    return len([rest for rest in rests if (tail + rest - start) % part == 0]) == period // part


def are_marks(question, value):
    """Whether a value is a lot of marks that can tell the watched cell."""
    marks = [words[1] for words in question.steps if words[0] == "mark" and words[2] == question.slot]
    return (isinstance(value, tuple) and all([isinstance(mark, str) and mark in marks for mark in value])
            and list(value) == sorted(set(value)))


def is_cell(question, value):
    """Whether a value tells where the watched cell is, once it was read."""
    if not isinstance(value, tuple) or value == () or not isinstance(value[0], str):
        return False
    if not question.is_look:
        return value == ("none",)
    if value[0] == "hung":
        return (len(value) == 3 and isinstance(value[1], str) and value[1] in question.slots
                and isinstance(value[2], bool))
    if value[0] == "aside":
        return len(value) == 2 and is_number_below(value[1], question.oldest + 1)
    return len(value) == 1 and value[0] in ("out", "back", "hand")


def is_update_told(question, kind, done, barred, shown):
    """Whether values tell how far an update is, and whether the reader keeps it."""
    if not isinstance(kind, str) or not isinstance(barred, bool):
        return False
    if kind == "":
        return is_number(done) and done == 0 and not barred
    if kind not in question.scripts or not is_number_below(done, len(question.scripts[kind])):
        return False
    return not barred or question.scripts[kind][done] == ("wait",) and shown != "none"


def are_tallies(question, value):
    sizes = [2 if size is None else size for size in question.sizes]
    return (is_row_of(value, len(sizes))
            and all([is_number_below(tally, size) for tally, size in zip(value, sizes)]))


def is_stand(question, value):
    """Whether any value is a stand behind the first step; it need not come about."""
    if not is_row_of(value, 8):
        return False
    kind, done, barred, at, shown, marks, cell, tallies = value
    return (isinstance(shown, str) and shown in SHOWN
            and is_update_told(question, kind, done, barred, shown)
            and is_number_below(at, question.at + 1) and at > question.first
            and are_marks(question, marks) and is_cell(question, cell)
            and are_tallies(question, tallies))


def is_paper_told(question, value):
    """Whether any value is a pair of a row of lots of stands, and the number of one of them."""
    if not is_row_of(value, 2) or not isinstance(value[0], tuple):
        return False
    return (is_number_below(value[1], len(value[0]))
            and all([isinstance(lot, tuple) and all([is_stand(question, stand) for stand in lot])
                     for lot in value[0]]))


def are_closed(question, lots, back):
    """Whether each lot has all that comes behind its stands, and the next one all by a turn."""
    known = [{stand: True for stand in lot} for lot in lots]
    if not all([stand in known[0] for stand in starts_of(question)]):
        return False
    for at, lot in enumerate(lots):
        after = known[at + 1 if at + 1 < len(lots) else back]
        for stand in lot:
            for _, behind, is_turn in stand_moves(question, stand):
                if behind not in (after if is_turn else known[at]):
                    return False
    return True


def bars_others(question, lots, back, told):
    """Whether the check comes next only in lots of numbers that are told."""
    for at, lot in enumerate(lots):
        if not any([question.is_asked(stand) for stand in lot]):
            continue
        if not is_in(told, at) or at >= back and not all_are_in(told, at, len(lots) - back):
            return False
    return True


def holds(question, told, value):
    if not is_quadruple(told) or not is_paper_told(question, value):
        return False
    lots, back = value
    return are_closed(question, lots, back) and bars_others(question, lots, back, told)


def layers_hold(design, name, at, told, value):
    return holds(question_of(design, name, at, "same"), told, value)


def put_layers_hold(design, name, at, told, value):
    return holds(question_of(design, name, at, "look"), told, value)
