import random
import unittest

from tests.making import is_within_limits, random_design, random_reader
from tests.values import any_values, home, raised
from unfooled.designs import Design
from unfooled.errors import InvalidHarm, NoName
from unfooled.faults import faults, faults_of, fewest, happens, story
from unfooled.kinds import Kind
from unfooled.readers import Reader
from unfooled.scene import Scene, event_words
from unfooled.stage import play
from unfooled.telling import history_of
from unfooled.watched import beginning, led_on

HARMS = ("back", "early", "fooled", "torn", "used")
TAILS = (["try", "give 1"], ["try", "give 2"], ["try", "wait"], ["try", "move"], ["wait", "try"])
SWAP = "swap: take, write p, put s, aside, give 0"


def begins(events):
    return len([event for event in events if event.startswith("begin ")])


def random_history(rng, design, met):
    """A random history; tells of each harm met: reader's name, harm, updates that began."""
    scene, names, began, lazy = Scene(design), [], 0, rng.random()
    for _ in range(60):
        updates = ["step", "step", "flush"] + ["begin " + kind.name for kind in design.kinds]
        updates += [f"step {cell}" for cell in scene.house.back] * 2
        others = [f"{word} {at}" for at in range(len(names)) for word in ("next", "drain")]
        if len(names) < 4:
            others += ["start " + reader.name for reader in design.readers]
        pool = updates if rng.random() < lazy else others
        pool = [text for text in pool if scene.may(event_words(design, text))]
        if not pool:
            continue
        words = event_words(design, rng.choice(pool))
        began += words[0] == "begin"
        if words[0] == "start":
            names.append(words[1])
        for harm in scene.do(words):
            key = (names[words[1]], harm)
            met[key] = min(began, met.get(key, 99))


def overs_design(rng):
    """Updates that write in place: here runs go back."""
    while True:
        slots, parts = ["s", "t"][:rng.choice([1, 2])], ["p", "q"]
        texts = [f"over {rng.choice(slots)} {rng.choice(parts)}" for _ in range(rng.randint(2, 3))]
        if rng.random() < 0.4:
            texts[1:1] = ["take", f"write {rng.choice(parts)}", f"put {rng.choice(slots)}"]
        readers = [random_reader(rng, "r", slots, parts, [], ["read", "use", "use", "look"], 4)]
        slot = rng.choice(slots)
        readers.append(Reader("n", ["read " + slot, f"use {slot} {rng.choice(parts)}"]))
        design = Design(slots, parts, [Kind("k", texts)], readers,
                        rooms=(rng.choice([0, 1]), rng.choice([0, 1])))
        if is_within_limits(design):
            return design


def helped_design(rng, is_free):
    """Updates that give back with free, or that try, beside readers who can help."""
    slots = ["s", "t"]
    kinds = [Kind(name, ["take", "write p", "put " + slot, "aside"]
                  + (["give 0 free"] if is_free else rng.choice(TAILS)))
             for name, slot in (("k", "s"), ("l", "t"))]
    readers = [random_reader(rng, "r", slots, ["p"], [],
                             ["read", "use", "use", "look", "enter", "leave"], 5)]
    if is_free:
        uses = ["use s p", "use t p", rng.choice(["use s p", "look s"])]
        rng.shuffle(uses)
        readers = [Reader("r", ["read t", "read s"] + uses, rng.choice(["once", "again"]))]
        more = rng.choice([[], ["clear h"]])
        readers += [Reader("m", ["read s", "mark h s"] + more, rng.choice(["once", "again"])),
                    Reader("n", ["read t", "look t", "mark h t"], rng.choice(["once", "again"]))]
    else:
        readers += [Reader("m", ["enter", "leave"])]
    return Design(slots, ["p"], kinds, readers, rooms=(rng.choice([0, 1]), rng.choice([0, 1])))


class Faults(unittest.TestCase):
    """Promises 24 and 25."""

    def check_stories(self, design):
        """All harms of a design: each story is played, and is one of the fewest updates."""
        found = self.check_readers(design, design.readers)
        self.assertEqual(faults(design), tuple(sorted(found)))
        if "back" in found:
            self.assertIn("early", found)
        return found

    def check_readers(self, design, readers):
        found = set()
        for reader in readers:
            told = faults_of(design, reader.name)
            self.assertEqual(told, tuple(sorted(told)))
            found.update(told)
            for harm in HARMS:
                self.assertIs(happens(design, reader.name, harm), harm in told)
                events = story(design, reader.name, harm)
                self.assertEqual(events is None, harm not in told)
                least = fewest(design, reader.name, harm)
                self.assertEqual(least is None, events is None)
                if events is None:
                    continue
                self.assertIsInstance(events, tuple)
                seen = play(design, events)
                self.assertIn((len(events) - 1, harm), seen.met)
                word, number = events[-1].split(" ")
                self.assertEqual((word, seen.readers[int(number)][0]), ("next", reader.name))
                self.assertEqual(begins(events), least)
        return found

    def test_the_example(self):
        hasty = home([SWAP], ["bare once: read s, use s p", "two once: read s, use s p, use s p"])
        self.assertEqual((faults_of(hasty, "bare"), faults_of(hasty.with_reuse("never"), "two"),
                          fewest(hasty, "bare", "used")), (("early", "used"), ("early", "used"), 1))
        self.assertEqual((faults(hasty), happens(hasty, "two", "torn")), (("early", "used"), False))

    def test_what_keeps_harms_away(self):
        aged = "k: take, write p, put s, aside, try, give 2"
        for kind, reader, told in (
                ("k: take, write p, put s, aside, wait, give 0", "r once: enter, read s, use s p, leave",
                 ("early",)),
                ("k: take, write p, wait, put s, aside, give 0", "r once: enter, read s, use s p, leave",
                 ("early", "used")),
                (aged, "r once: enter, read s, use s p, leave", ("early",)),
                (aged.replace("give 2", "give 0"), "r once: enter, read s, use s p, leave",
                 ("early", "used")),
                ("k: take, write p, put s, aside, give 0 free", "r once: read s, mark h s, look s, use s p",
                 ("early", "fooled", "used")),
                ("k: take, write p, put s, aside, give 0 free", "r once: read s, mark h s, use s p",
                 ("early", "used")),
                ("k: take, write p, put s", "r once: read s, use s p", ()),
                ("k: fence", "r once: read s, use s p", ())):
            self.assertEqual(faults_of(home([kind], [reader]), "r"), told, (kind, reader))
        marks = home(["k: take, write p, put s, aside, give 0 free"],
                     ["r once: read s, mark h s, look s, use s p"], reuse="never")
        self.assertEqual(faults(marks), ("early",))

    def test_numbers(self):
        lock = "k: bump c, over s p, over s q, bump c"
        reader = "r once: num c, even 0, read s, use s p, use s q, num c, same 0 5"
        for size, told in (("-", ()), ("2", ("fooled", "torn")), ("4", ("fooled", "torn"))):
            design = home([lock], [reader], parts="p q", rounds="c " + size)
            self.assertEqual(faults_of(design, "r"), told)
        design = home([lock], [reader], parts="p q", rounds="c 4")
        self.assertEqual(fewest(design, "r", "fooled"), 2)
        self.assertEqual(fewest(design.with_rounds((("c", 2),)), "r", "fooled"), 1)

    def test_back(self):
        odd = home(["k: bump c, over s p, over s q, bump c"],
                   ["o once: read s, use s p", "n once: read s, use s q"], parts="p q",
                   rounds="c 2", reuse="never")
        self.assertEqual((faults_of(odd, "o"), faults_of(odd, "n")), (("early",), ("back", "early")))
        self.assertEqual((faults(odd), fewest(odd, "n", "back")), (("back", "early"), 1))
        events = story(odd, "n", "back")
        self.assertEqual(play(odd, events).met[-1], (len(events) - 1, "back"))
        alone = home(["k: over s p, over s q"], ["n once: read s, use s q"], parts="p q")
        self.assertEqual(faults(alone), ())
        # A later run in the same update, that sees less of it than the first one.
        same = home(["k: over s p, over t p"], ["r again: read s, use s p", "n once: read t, use t p"],
                    slots="s t")
        self.assertEqual((faults_of(same, "n"), faults_of(same, "r")), (("back",), ("early",)))

    def test_errors(self):
        design = home([SWAP], ["r once: read s, use s p"])
        for value in any_values():
            for work in (happens, story, fewest):
                if value != "r":
                    error = raised(work, design, value, value)
                    self.assertEqual(error.__class__, NoName, value)
                    self.assertIs(error.name, value)
                if value not in HARMS:
                    self.assertEqual(raised(work, design, "r", value).__class__, InvalidHarm, value)
            if value != "r":
                self.assertEqual(raised(faults_of, design, value).__class__, NoName)
        self.assertIs(happens(harm="used", name="r", design=design), True)
        self.assertEqual(fewest(harm="used", name="r", design=design), 1)
        self.assertIsNone(story(harm="torn", name="r", design=design))

    def test_stories(self):
        found = set()
        for seed in range(90):
            found |= self.check_stories(random_design(random.Random(seed), reader_steps=5))
        for seed in range(40):
            found |= self.check_stories(overs_design(random.Random(seed)))
        self.assertEqual(found, set(HARMS))

    def test_stories_with_helpers(self):
        helped = 0
        for seed in range(12):
            design = helped_design(random.Random(seed), seed % 4 > 0)
            self.check_readers(design, design.readers[:1])
            for harm in ("torn", "used"):
                events = story(design, "r", harm) or ()
                helped += len([event for event in events if event.startswith("start")]) > 1
        self.assertGreater(helped, 0)

    def test_helpers_along_any_road(self):
        """Roads with many a kept try and spared cell can be told, if each is asked for once."""
        special = 0
        for seed in range(80):
            rng = random.Random(seed)
            design = helped_design(rng, seed % 2 > 0)
            standing, way = beginning(design, "r"), []
            for _ in range(40):
                rows = [row for row in led_on(design, "r", standing) if row[1] is not None]
                if not rows:
                    break
                helped = [row for row in rows if row[0][0] in ("kept", "spared")]
                steps = [row for row in rows if row[0] == ("update", "step")]
                row = rng.choice(helped or rng.choice([rows, steps or rows]))
                special += row in helped
                way.append((standing, row[0]))
                standing = row[1]
            play(design, history_of(design, [("r", way)]))
        self.assertGreater(special, 100)

    def test_no_needless_helpers(self):
        design = home(["k: take, write p, put s, aside, try, give 1"],
                      ["r once: read s, use s p", "o once: enter, leave"])
        for harm in ("early", "used"):
            events = story(design, "r", harm)
            self.assertEqual([event for event in events if event.startswith("start")], ["start r"])

    def by_standings(self, design, name):
        """The harms but back, each with the least number of updates, by all that led_on tells."""
        levels, known, found, begun = [[beginning(design, name)]], set(), {}, 0
        while levels[0]:
            rows, after = levels[0], []
            for standing in rows:
                if standing in known:
                    continue
                known.add(standing)
                for label, behind, harms, _ in led_on(design, name, standing):
                    for harm in harms:
                        found.setdefault(harm, begun)
                    if behind is not None and behind not in known:
                        (after if label[1:] and str(label[1]).startswith("begin ") else rows).append(behind)
            levels, begun = [after], begun + 1
        return found

    def test_all_that_standings_meet(self):
        found = set()
        for seed in range(150):
            rng = random.Random(seed)
            design = overs_design(rng) if seed % 5 == 0 else random_design(rng, reader_steps=6)
            for reader in design.readers:
                told = self.by_standings(design, reader.name)
                found.update(told)
                for harm in HARMS[1:]:
                    # The same, whatever was asked before.
                    fresh = Design.read(str(design))
                    self.assertEqual(fewest(fresh, reader.name, harm), told.get(harm), (seed, harm))
                    self.assertEqual(fewest(design, reader.name, harm), told.get(harm))
                self.assertEqual(sorted(told), [harm for harm in faults_of(design, reader.name) if harm != "back"])
        self.assertEqual(found, set(HARMS[1:]))

    def test_no_harm_is_left_out(self):
        found = set()
        for seed in range(120):
            rng = random.Random(seed)
            design = overs_design(rng) if seed % 3 == 0 else random_design(rng, reader_steps=5)
            met = {}
            for _ in range(25):
                random_history(rng, design, met)
            for name, harm in met:
                found.add(harm)
                self.assertIn(harm, faults_of(design, name))
                self.assertLessEqual(fewest(design, name, harm), met[name, harm])
        self.assertLessEqual({"early", "torn", "used", "fooled"}, found)
