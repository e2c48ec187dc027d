"""Harms are told soon: what took seconds once must not again."""

import random
import time
import unittest

from tests.making import joining_pair, random_design
from unfooled.again import grade, height_paper, most_rejected, rejections
from unfooled.buffers import places
from unfooled.changes import breaking
from unfooled.designs import Design
from unfooled.faults import faults, faults_of, fewest, happens, story
from unfooled.fences import fence_cuts
from unfooled.joins import across
from unfooled.lean import droppable, lean_lots
from unfooled.logs import first_known, must_know, next_rows, parting_log
from unfooled.spares import is_sure, most_steps, tries_needed
from unfooled.watched import beginning, led_on

HARMS = ("back", "early", "fooled", "torn", "used")
GREAT = (
    ("slots s t\nparts p q\nrounds c 4\nwide -\nrooms 0 0\nreuse any\n"
     "kind k: bump c, take, write p, put s, aside, give 2\n"
     "kind l: take, put s, take, put t, aside, give 0\n"
     "reader r again: num c, read s, read t, use s p, use t q, num c, same 0 5, look s",
     ("early", "fooled", "torn", "used")),
    ("slots s t\nparts p q\nrounds -\nwide -\nrooms 1 0\nreuse any\n"
     "kind k: take, write p, put s, aside, try, give 2\n"
     "kind l: take, put s, take, put t, aside, give 0\n"
     "reader r again: enter, read s, read t, use s p, use t q, use s q, look s, leave\n"
     "reader v once: enter, read s, read t, use t p, use s q, look t",
     ("early", "fooled", "torn", "used")),
    ("slots s t\nparts p q\nrounds -\nwide s 3\nrooms 1 0\nreuse any\n"
     "kind k: take, write p, put s, aside, try, give 1\n"
     "kind l: over s p, over s q, over t p, wait\n"
     "reader r once: enter, read s, read t, use s p, use s q, use t p, look s, leave\n"
     "reader v again: enter, read t, read s, use t q, use s p, look t, leave",
     ("early", "fooled", "torn", "used")),
    ("slots s\nparts p q\nrounds -\nwide -\nrooms 1 0\nreuse any\n"
     "kind k: take, write p, put s, aside, give 1 free\n"
     "kind l: take, put s, aside, give 0 free\n"
     "reader r again: read s, mark h s, look s, use s p, use s q, look s\n"
     "reader v once: read s, mark h s, look s, use s p, use s q",
     ("early", "fooled", "used")),
    ("slots s t\nparts p q\nrounds -\nwide -\nrooms 1 0\nreuse any\n"
     "kind k: take, write p, put s, aside, try, give 2\n"
     "reader r again: enter, read s, read t, use s p, use t q, use s q, look s, leave\n"
     "reader v once: enter, read s, read t, use t p, use s q, look t",
     ("early", "fooled", "used")))


def seconds(work):
    start = time.perf_counter()
    work()
    return time.perf_counter() - start


def ask_all(design):
    faults(design)
    for reader in design.readers:
        faults_of(design, reader.name)
        for harm in HARMS:
            happens(design, reader.name, harm)
            story(design, reader.name, harm)
            fewest(design, reader.name, harm)


def ask_more(design):
    """Questions of the later modules, each of a design that nobody asked before."""
    def fresh():
        return Design.read(str(design))
    name = max(design.readers, key=len).name
    for work in (grade, rejections, height_paper, tries_needed, breaking):
        work(fresh(), name)
    for work in (most_rejected, most_steps, is_sure):
        work(fresh(), name, 9)
    for question in (("good",), ("amid",)):
        first_known(fresh(), name, question)
        must_know(fresh(), name, (), question)
    next_rows(fresh(), name, ())
    parting_log(design, design.with_rooms((design.rooms[0], 1 - design.rooms[1])), name)
    for harms in (("used",), ("early", "torn")):
        if len(places(design)) <= 5:
            fence_cuts(fresh(), harms)
        if len(droppable(design, name)) <= 5:
            lean_lots(fresh(), name, harms)


def lead_on(design, name, most):
    rows, known = [beginning(design, name)], set()
    for standing in rows:
        if len(known) < most:
            for row in led_on(design, name, standing):
                if row[1] is not None and row[1] not in known:
                    known.add(row[1])
                    rows.append(row[1])


class Quick(unittest.TestCase):
    def test_great_designs(self):
        """Together they took more than twenty seconds; now a tenth of one."""
        designs = [Design.read(text) for text, _ in GREAT]
        told = []
        took = seconds(lambda: told.extend(faults_of(design, "r") for design in designs))
        self.assertEqual(told, [answer for _, answer in GREAT])
        self.assertLess(took, 4)
        self.assertIsNone(story(designs[1], "r", "back"))

    def test_small_designs(self):
        """For each some 100 ms at first, now about one."""
        designs = [random_design(random.Random(seed), reader_steps=6) for seed in range(300)]
        self.assertLess(seconds(lambda: [ask_all(design) for design in designs]), 10)

    def test_later_modules(self):
        """Some 15 ms for all questions to one design."""
        designs = [random_design(random.Random(seed), reader_steps=6) for seed in range(60)]
        self.assertLess(seconds(lambda: [ask_more(design) for design in designs]), 20)

    def test_joined_designs(self):
        pairs = [joining_pair(random.Random(seed)) for seed in range(60)]
        self.assertLess(seconds(lambda: [across(one, other) for one, other in pairs]), 6)

    def test_standings(self):
        """A call took some 150 microseconds at first, now about ten."""
        designs = [Design.read(text) for text, _ in GREAT]
        self.assertLess(seconds(lambda: [lead_on(design, "r", 6000) for design in designs]), 4)
