"""What a reader can know of the others by what it sees."""

from unfooled.errors import Refused
from unfooled.graph import graph_of
from unfooled.questions import Answers, check_question
from unfooled.reading import NEXT
from unfooled.rings import components
from unfooled.sights import OVER, check_log, row_seen, sights_of
from unfooled.telling import history_with_marks
from unfooled.watched import plan_of
from unfooled.ways import reached
from unfooled.words import is_row_of


def sights_for(design, name, log):
    """The sights of a reader, its uses left aside; the errors for a wrong name, a wrong log."""
    check_log(design, design.reader(name), log)
    return sights_of(design, name, True)


def log_fits(design, name, log):
    return len(sights_for(design, name, log).followed(log)) == len(log) + 1


def next_rows(design, name, log):
    sights = sights_for(design, name, log)
    lots = sights.followed(log)
    if len(lots) <= len(log) or lots[-1] == OVER:
        return ()
    return tuple(sights.rows_behind(lots[-1]))


def told_by(design, name, way):
    """The pair (number, events) of a way of the watched reader."""
    return 0, history_with_marks(design, name, way)[0]


def story_of(design, name, log):
    sights = sights_for(design, name, log)
    if len(sights.followed(log)) <= len(log):
        return None
    return told_by(design, name, sights.way_along(log, lambda number: True))


def lots_along(sights, log):
    """The lots of standings ahead of and behind the rows of a log, in an order that hangs on
    nothing else; empty ones where it does not fit."""
    lots = [reached([0], lambda number: sights.unseen_behind(number))]
    for row in log:
        shown = [sights.seen_at(number) for number in lots[-1]]
        firsts = [told[1] for told in shown if told is not None and told[0] == row and told[1] != OVER]
        lots.append(reached(firsts, lambda number: sights.unseen_behind(number)))
    return lots


def log_paper(design, name, log):
    check_log(design, design.reader(name), log)
    sights = sights_of(design, name, False)
    return tuple([tuple([sights.standings[number] for number in lot]) for lot in lots_along(sights, log)])


def numbers_in(texts, value):
    """The numbers of the standings in any value, if it is a tuple of standings, or None; `texts` are
    those of all that come about, with their numbers."""
    if not isinstance(value, tuple):
        return None
    found = [texts.get(repr(standing)) for standing in value]
    return None if None in found else {number: True for number in found}


def log_holds(design, name, log, value):
    check_log(design, design.reader(name), log)
    if not is_row_of(value, len(log) + 1):
        return False
    graph = graph_of(design, name)
    lots = [numbers_in(graph.all_texts(), lot) for lot in value]
    if None in lots or 0 not in lots[0]:
        return False
    plan = plan_of(design, name)
    for at, lot in enumerate(lots):
        for number in lot:
            for label, behind, _, words in graph.rows[number]:
                if behind is None:
                    continue
                if label != NEXT and behind not in lot:
                    return False
                if label == NEXT and at < len(log) and behind not in lots[at + 1]:
                    if row_seen(plan, graph.standings[number], words) == log[at]:
                        return False
    return True


def answers_behind(design, name, log, question):
    """The answers to a question, and the lot behind a log; the errors for a log that does not fit,
    or by which the run is over."""
    reader = design.reader(name)
    check_log(design, reader, log)
    check_question(reader, question)
    answers = Answers(design, name, question)
    lots = answers.sights.followed(log)
    if len(lots) <= len(log):
        raise Refused(len(lots) - 1)
    if lots[-1] == OVER:
        raise Refused(len(log) - 1)
    return answers, lots[-1]


def word_for(design, name, log, question):
    answers, lot = answers_behind(design, name, log, question)
    return answers.word_behind(lot)


def unlike_stories(design, name, log, question):
    answers, lot = answers_behind(design, name, log, question)
    if not answers.is_open(lot):
        return None
    sights = answers.sights
    yes = sights.way_along(log, lambda number: answers.is_yes(number))
    no = sights.way_along(log, lambda number: not answers.is_yes(number))
    return told_by(design, name, yes), told_by(design, name, no)


def first_known(design, name, question):
    reader = design.reader(name)
    check_question(reader, question)
    answers = Answers(design, name, question)
    logs = {0: ()}
    rows = [0]
    done = 0
    while done < len(rows):
        lot = rows[done]
        done = done + 1
        if not answers.is_open(lot):
            return logs[lot], answers.word_behind(lot)
        for row, behind in answers.sights.rows_behind(lot).items():
            if behind != OVER and behind not in logs:
                logs[behind] = (*logs[lot], row)
                rows.append(behind)
    return None


def can_know(design, name, log, question):
    answers, lot = answers_behind(design, name, log, question)
    # Where it is not open there is no need to go on.
    lots = reached([lot], lambda one: answers.sights.lots_behind(one) if answers.is_open(one) else [])
    return not all([answers.is_open(one) for one in lots])


def must_know(design, name, log, question):
    answers, lot = answers_behind(design, name, log, question)
    sights = answers.sights
    if not answers.is_open(lot):
        return True
    lots = reached([lot], lambda one: [after for after in sights.lots_behind(one) if answers.is_open(after)])
    nexts = {one: [after for after in sights.lots_behind(one) if answers.is_open(after)] for one in lots}
    if any([OVER in list(sights.rows_behind(one).values()) for one in lots]):
        return False
    # If tries can come round without an answer, it is open for ever.
    return all([len(ring) == 1 and ring[0] not in nexts[ring[0]] for ring in components(nexts)])


def parting_log(one, other, name):
    one.reader(name)
    other.reader(name)
    first = sights_of(one, name, True)
    second = sights_of(other, name, True)
    logs = {(0, 0): ()}
    rows = [(0, 0)]
    done = 0
    while done < len(rows):
        pair = rows[done]
        done = done + 1
        ours = first.rows_behind(pair[0])
        theirs = second.rows_behind(pair[1])
        for row in sorted(set([*ours, *theirs])):
            log = (*logs[pair], row)
            if row not in ours or row not in theirs:
                return log
            both = (ours[row], theirs[row])
            if OVER not in both and both not in logs:
                logs[both] = log
                rows.append(both)
    return None
