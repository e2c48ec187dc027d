"""What histories tell of moments: which runs fit to which, in which order they can be told."""

from unfooled.scene import fitting
from unfooled.stage import scene_behind
from unfooled.words import is_number_below, is_row_of


def moments(design, events):
    return tuple(scene_behind(design, events).house.all_moments())


def over_now(design, events):
    return scene_behind(design, events).house.number_over()


def ends_of(numbers):
    """The first and the last one of a row of numbers, or None."""
    return (numbers[0], numbers[-1]) if numbers else None


def stretch(design, events, place):
    return fits(design, events, [place])


def fits(design, events, used):
    return ends_of(fitting(used, moments(design, events), design))


def are_apart(design, row, one, other):
    """Whether no moment of a row has both places."""
    return fitting([one, other], row, design) == []


def bar(design, events, used):
    row = moments(design, events)
    if fitting(used, row, design) != []:
        return None
    for low in range(len(used)):
        for high in range(low, len(used)):
            if are_apart(design, row, used[low], used[high]):
                return low, high
    # With a greater second room stretches can have gaps: then two need not be enough.
    return None


def bar_holds(design, events, used, value):
    row = moments(design, events)
    if not is_row_of(value, 2) or not all([is_number_below(number, len(used)) for number in value]):
        return False
    low, high = value
    return low <= high and are_apart(design, row, used[low], used[high])


def accepted_runs(scene):
    """For each accepted run (its number, word, fits, span)."""
    found = []
    for number, (_, end, _, told) in enumerate(scene.runs):
        span = scene.spans[number]
        if end != "accepted":
            continue
        if told is None:
            found.append((number, "torn", None, span))
        else:
            found.append((number, "early" if told[0] > span[1] else "whole", told, span))
    return found


def judged(design, events):
    return tuple([row[:3] for row in accepted_runs(scene_behind(design, events))])


def counted(design, events):
    words = [word for _, word, _ in judged(design, events)]
    return tuple([len([word for word in words if word == told]) for told in ("whole", "early", "torn")])


def fitting_runs(design, events):
    """For each accepted run that is not torn (its number, word, fits, span)."""
    return [row for row in accepted_runs(scene_behind(design, events)) if row[2] is not None]


def backs(design, events):
    found = []
    rows = fitting_runs(design, events)
    for number, _, (_, greatest), (ahead, _, _) in rows:
        for other, _, (least, _), _ in rows:
            if other < ahead and least > greatest:
                found.append((other, number))
    return tuple(sorted(found))


def told_in_order(design, events):
    told = []
    for number, _, (least, greatest), (ahead, _, _) in fitting_runs(design, events):
        moment = max([least, *[one for other, one in told if other < ahead]])
        if moment > greatest:
            return None
        told.append((number, moment))
    return tuple(told)


def lags_of(design, events):
    return tuple([(number, lag_told(told[1], span[2]))
                  for number, _, told, span in fitting_runs(design, events)])


def lag_told(greatest, over):
    """The lag of a run by its greatest moment, and the updates over at its last telling step."""
    return 0 if over is None else max(0, over - greatest)
