import itertools
import random
import unittest

from tests.making import random_design, random_events
from tests.test_faults import overs_design
from tests.values import any_values, home, raised
from unfooled.errors import InvalidEvent, Refused
from unfooled.moments import (backs, bar, bar_holds, counted, fits, judged, lags_of, moments, over_now,
                              stretch, told_in_order)
from unfooled.stage import play

MADE = home(["set: take, write p, write q, put s", "pair: over s p, over s q"],
            ["see once: read s, use s p, use s q", "left once: read s, use s p",
             "late once: read s, use s q"], parts="p q", reuse="never")
TELLING = ("use", "look", "num")


def alone(events):
    """The events of updates."""
    return [event for event in events if event.split(" ")[0] in ("begin", "step", "flush")]


def is_over(played):
    return played.going is None


def moments_by_playing(design, events):
    """The moments: what hangs each time when an update is over, and when the last one goes on
    alone (contents of cells that it takes then are None)."""
    events = alone(events)
    found = [play(design, []).contents]
    for at in range(1, len(events) + 1):
        seen = play(design, events[:at])
        if is_over(seen):
            found.append(seen.contents)
    seen = play(design, events)
    if is_over(seen):
        return tuple(found)
    taken, events = set(), list(events)
    while not is_over(seen):
        step = design.kind(seen.going[0]).texts[seen.going[1]:seen.going[1] + 1]
        more = "flush" if seen.waiting else "step"
        seen = play(design, events + [more])
        events.append(more)
        if step == ("take",) and more == "step":
            taken.add(seen.hand)
    last = tuple(tuple(None if cell in taken else content for content in row)
                 for cell, row in zip(seen.hung, seen.contents))
    return (*found, last)


def number_over(design, events):
    return len([at for at in range(1, len(events) + 1) if events[at - 1].split(" ")[0] in ("step", "flush")
                and is_over(play(design, events[:at]))])


def has(design, moment, place):
    slot, part, content = place
    return moment[design.slots.index(slot)][design.parts.index(part)] == content


def pair_of(numbers):
    return (numbers[0], numbers[-1]) if numbers else None


def fits_by_trying(design, row, used):
    return pair_of([at for at, moment in enumerate(row) if all(has(design, moment, one) for one in used)])


def bar_by_trying(design, row, used):
    if fits_by_trying(design, row, used):
        return None
    for pair in itertools.combinations_with_replacement(range(len(used)), 2):
        if not fits_by_trying(design, row, [used[at] for at in pair]):
            return pair
    return None


def runs_by_playing(design, events):
    """For each run that is over: (number of events by which it ended, runs ahead of its first
    step, number of events by which its last telling step was done or None)."""
    found, begun, telling, over = [], {}, {}, 0
    for at, event in enumerate(events):
        words = event.split(" ")
        if words[0] != "next":
            continue
        number = int(words[1])
        done = play(design, events[:at]).readers[number][1]
        script = design.reader(play(design, events[:at]).readers[number][0])
        if done == 0:
            begun[number], telling[number] = over, None
        if script.texts[done].split(" ")[0] in TELLING:
            telling[number] = at + 1
        runs = play(design, events[:at + 1]).runs
        if len(runs) > over:
            over = len(runs)
            found.append((at + 1, begun[number], telling[number]))
    return found


class Moments(unittest.TestCase):
    """Promises 28 to 33."""

    def test_the_example(self):
        slow = ["start see", "next 0", "begin set", "step", "step", "step", "step", "next 0", "next 0"]
        self.assertEqual((moments(MADE, slow), judged(MADE, slow), lags_of(MADE, slow)),
                         (((((0, 0), (0, 0)),), (((1, 1), (1, 1)),)), ((0, "whole", (0, 0)),), ((0, 1),)))
        split = ["start see", "next 0", "next 0", "begin pair", "step", "step", "next 0"]
        self.assertEqual((judged(MADE, split), bar(MADE, split, [("s", "p", (0, 0)), ("s", "q", (0, 1))]),
                          stretch(MADE, split, ("s", "q", (0, 1)))),
                         (((0, "torn", None),), (0, 1), (1, 1)))
        both = ["start left", "start late", "begin pair", "step", "next 0", "next 0", "next 1", "next 1"]
        self.assertEqual((judged(MADE, both), backs(MADE, both), told_in_order(MADE, both)),
                         (((0, "early", (1, 1)), (1, "whole", (0, 0))), ((0, 1),), None))
        self.assertEqual((counted(MADE, both), counted(MADE, split), over_now(MADE, both),
                          over_now(MADE, split)), ((1, 1, 0), (0, 0, 1), 0, 1))

    def test_edges(self):
        going = ["begin set", "step"]
        self.assertEqual(moments(MADE, going), ((((0, 0), (0, 0)),), (((1, 1), (1, 1)),)))
        self.assertEqual(moments(MADE, ["begin set"]), ((((0, 0), (0, 0)),), ((None, None),)))
        self.assertEqual((fits(MADE, going, []), bar(MADE, going, []), bar_holds(MADE, going, [], (0, 0))),
                         ((0, 1), None, False))
        self.assertEqual((stretch(MADE, going, ("s", "p", (5, 1))), bar(MADE, going, [("s", "p", (5, 1))])),
                         (None, (0, 0)))
        self.assertEqual((moments(MADE, ()), judged(MADE, ()), counted(MADE, ()), backs(MADE, ()),
                          told_in_order(MADE, ()), lags_of(MADE, ()), over_now(MADE, ())),
                         (((((0, 0), (0, 0)),),), (), (0, 0, 0), (), (), (), 0))
        # With a buffer a moment is what memory has behind the last store.
        odd = home(["k: over s p, over t p"], ["r once: read s, use s p"], slots="s t", rooms="0 2")
        row = moments(odd, ["begin k", "step", "step", "flush", "flush"])
        self.assertEqual(row, (((((0, 0),)), ((1, 0),)), (((0, 1),), ((1, 1),))))

    def test_moments_by_playing(self):
        going = 0
        for seed in range(60):
            rng = random.Random(seed)
            design = overs_design(rng) if seed % 3 == 0 else random_design(rng)
            events, scene = random_events(rng, design)
            row = moments_by_playing(design, events)
            self.assertEqual(moments(design, events), row)
            self.assertEqual(over_now(design, tuple(events)), number_over(design, events))
            going += len(row) > over_now(design, events) + 1
        self.assertGreater(going, 15)

    def test_fits_stretches_and_bars(self):
        found = set()
        for seed in range(150):
            rng = random.Random(seed)
            design = overs_design(rng) if seed % 2 else random_design(rng)
            events, scene = random_events(rng, design, 40)
            row = moments(design, events)
            places = [(slot, part, moment[at][other]) for moment in row for at, slot in enumerate(design.slots)
                      for other, part in enumerate(design.parts) if moment[at][other] is not None]
            places += [place for run in scene.runs for place in run[2]] + [("s", "p", (9, 9))]
            for place in places:
                numbers = [at for at, moment in enumerate(row) if has(design, moment, place)]
                self.assertEqual(stretch(design, events, place), pair_of(numbers))
                # One stretch each, if the second room is at most 1.
                self.assertEqual(numbers, list(range(numbers[0], numbers[-1] + 1)) if numbers else [])
            for _ in range(8):
                used = rng.choices(places, k=rng.randint(0, 4))
                self.assertEqual(fits(design, events, used), fits_by_trying(design, row, used))
                told = bar(design, events, tuple(used))
                self.assertEqual(told, bar_by_trying(design, row, used))
                self.assertEqual(told is None, fits(design, events, used) is not None)
                for pair in itertools.product(range(-1, 5), repeat=2):
                    holds = 0 <= pair[0] <= pair[1] < len(used) and not fits_by_trying(
                        design, row, [used[at] for at in pair])
                    self.assertIs(bar_holds(design, events, used, pair), holds)
                found.add(None if told is None else told[0] == told[1])
        self.assertEqual(found, {None, True, False})

    def test_any_value_as_bar(self):
        events = ["begin set", "step"]
        used = [("s", "p", (5, 1)), ("s", "q", (6, 1))]
        self.assertIs(bar_holds(MADE, events, used, (0, 1)), True)
        for value in any_values():
            self.assertIs(bar_holds(MADE, events, used, value), value == (0, 0))
        for value in ([0, 1], (True, 1), (0, True), (1, 0), (0, 2), (0, 1, 1), (0,), (-1, 0), ("0", "1"),
                      ((0, 1),), (None, None)):
            self.assertIs(bar_holds(MADE, events, used, value), False)

    def test_what_the_stage_meets(self):
        words, orders = set(), set()
        for seed in range(220):
            rng = random.Random(seed)
            design = overs_design(rng) if seed % 3 else random_design(rng, reader_steps=5)
            events, scene = random_events(rng, design, 60)
            seen, rows, spans = play(design, events), [], runs_by_playing(design, events)
            self.assertEqual(len(spans), len(seen.runs))
            for number, run in enumerate(seen.runs):
                if run[1] != "accepted":
                    continue
                end, ahead, telling = spans[number]
                row = moments(design, events[:end])
                told = fits_by_trying(design, row, run[2])
                word = "torn" if told is None else "early" if told[0] > over_now(design, events[:end]) else "whole"
                self.assertEqual([harm for at, harm in seen.met if at == end - 1 and harm in ("torn", "early")],
                                 [] if word == "whole" else [word])
                over = over_now(design, events[:telling]) if telling else 0
                rows.append((number, word, told, ahead, 0 if told is None else max(0, over - told[1])))
                words.add(word)
            self.assertEqual(judged(design, events), tuple(row[:3] for row in rows))
            self.assertEqual(counted(design, events), tuple(len([row for row in rows if row[1] == word])
                                                            for word in ("whole", "early", "torn")))
            rows = [row for row in rows if row[2]]
            self.assertEqual(lags_of(design, events), tuple((row[0], row[4]) for row in rows))
            gone_back = tuple((one[0], other[0]) for one in rows for other in rows
                              if one[0] < other[3] and one[2][0] > other[2][1])
            self.assertEqual(backs(design, events), tuple(sorted(gone_back)))
            self.assertEqual({spans[other][0] - 1 for _, other in gone_back},
                             {at for at, harm in seen.met if harm == "back"})
            early = [row[0] for row in rows if row[1] == "early"]
            self.assertTrue(all(one in early for one, _ in gone_back))
            orders.add(self.check_order(design, events, rows))
        self.assertEqual(words, {"whole", "early", "torn"})
        self.assertEqual(orders, {True, False})

    def check_order(self, design, events, rows):
        told = told_in_order(design, events)
        self.assertEqual(told is None, backs(design, events) != ())
        if told is None or len(rows) > 5:
            return told is None
        right = []
        for moments_told in itertools.product(*[range(row[2][0], row[2][1] + 1) for row in rows]):
            if all(moments_told[i] <= moments_told[j] for i in range(len(rows)) for j in range(len(rows))
                   if rows[i][0] < rows[j][3]):
                right.append(moments_told)
        least = tuple(min(column) for column in zip(*right))
        self.assertEqual(told, tuple((row[0], moment) for row, moment in zip(rows, least)))
        return False

    def test_errors(self):
        place = ("s", "p", (0, 0))
        calls = [lambda events: moments(MADE, events), lambda events: over_now(MADE, events),
                 lambda events: stretch(MADE, events, place), lambda events: fits(MADE, events, [place]),
                 lambda events: bar(MADE, events, [place]),
                 lambda events: bar_holds(MADE, events, [place], None), lambda events: judged(MADE, events),
                 lambda events: counted(MADE, events), lambda events: backs(MADE, events),
                 lambda events: told_in_order(MADE, events), lambda events: lags_of(MADE, events)]
        for call in calls:
            for value in any_values():
                error = raised(call, value)
                if value in ((), []):
                    self.assertIsNone(error)
                elif isinstance(value, (list, tuple)):
                    self.assertIn(error.__class__, (InvalidEvent, Refused), value)
                else:
                    self.assertEqual((error.__class__, error.at), (InvalidEvent, 0))
            error = raised(call, ["begin set", "flush"])
            self.assertEqual((error.__class__, error.at), (Refused, 1))
            error = raised(call, ["flush", "flash"])
            self.assertEqual((error.__class__, error.at), (InvalidEvent, 1))
        self.assertEqual(moments(events=[], design=MADE), ((((0, 0), (0, 0)),),))
        self.assertEqual(stretch(place=place, events=[], design=MADE), (0, 0))
        self.assertEqual(fits(used=[place], events=[], design=MADE), (0, 0))
        self.assertIsNone(bar(used=[place], events=[], design=MADE))
        self.assertIs(bar_holds(value=(0, 0), used=[place], events=[], design=MADE), False)
