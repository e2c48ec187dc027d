import random
import unittest

from tests.making import near_design, random_design
from tests.test_logs import knowing_design, lock_home
from tests.values import any_values, home, raised
from unfooled.changes import breaking, changed, effect, led_back, mending, single_changes
from unfooled.designs import Design
from unfooled.errors import InvalidChange, LookError, NoName
from unfooled.faults import faults_of
from unfooled.readers import Reader

STEPS = ("enter", "leave", "fence", "read s", "read t", "use s p", "use s zz", "look s", "num c", "num zz", "even 0", "same 0 1",
         "same 1 3", "mark h s", "clear h", "give 0", "use t p", "even 2")


def some_design(rng, steps=6):
    pick = rng.random()
    if pick < 0.3:
        return knowing_design(rng)
    return near_design(rng) if pick < 0.5 else random_design(rng, most_steps=5, reader_steps=steps)


def texts_moved(texts, where):
    """The texts with the numbers in checks changed by a dict; None if one has gone."""
    told = []
    for text in texts:
        words = text.split(" ")
        if words[0] in ("same", "even"):
            if any(int(word) not in where for word in words[1:]):
                return None
            words[1:] = [str(where[int(word)]) for word in words[1:]]
        told.append(" ".join(words))
    return told


def texts_behind(reader, change):
    """The texts behind a change of a reader, by hand; None if its numbers are none."""
    texts, many, at = list(reader.texts), len(reader), change[1]
    if change[0] == "out" and at < many:
        where = {old: old - (old > at) for old in range(many) if old != at}
        return texts_moved(texts[:at] + texts[at + 1:], where)
    if change[0] == "in" and at <= many:
        moved = texts_moved(texts, {old: old + (old >= at) for old in range(many)})
        return moved[:at] + [change[2]] + moved[at:]
    if change[0] == "swap" and at + 1 < many:
        texts[at], texts[at + 1] = texts[at + 1], texts[at]
        return texts_moved(texts, {old: {at: at + 1, at + 1: at}.get(old, old) for old in range(many)})
    return None


def by_hand(design, name, change):
    """The changed design, or None."""
    lines, reader = str(design).split("\n"), design.reader(name)
    if change[0] in ("out", "in", "swap"):
        texts = texts_behind(reader, change)
        if not texts:
            return None
        lines[lines.index(str(reader))] = f"reader {name} {reader.word}: " + ", ".join(texts)
    elif change[0] in ("round", "wide"):
        pairs = dict(design.rounds if change[0] == "round" else design.wide)
        if change[1] not in pairs:
            return None
        pairs[change[1]] = change[2]
        told = ", ".join(f"{one} {'-' if pairs[one] is None else pairs[one]}" for one in sorted(pairs))
        lines[{"round": 2, "wide": 3}[change[0]]] = {"round": "rounds ", "wide": "wide "}[change[0]] + told
    elif change[0] == "rooms":
        lines[4] = f"rooms {change[1]} {change[2]}"
    else:
        lines[5] = "reuse " + change[1]
    try:
        return Design.read("\n".join(lines))
    except LookError:
        return None


def random_change(rng, design, name):
    many = len(design.reader(name))
    at = rng.randint(0, many)
    return rng.choice([("out", at), ("in", at, rng.choice(STEPS)), ("in", at, rng.choice(STEPS)), ("swap", at), ("swap", at),
                       ("round", rng.choice(["c", "d"]), rng.choice([None, 2, 4, 8, 9, 1])),
                       ("wide", rng.choice(["s", "t"]), rng.choice([None, 2, 4, 8, 9])),
                       ("rooms", rng.choice([0, 1]), rng.choice([0, 1])), ("reuse", rng.choice(["any", "never", "all"]))])


class Changes(unittest.TestCase):
    """Promise 82."""

    def test_the_example(self):
        lock = lock_home()
        self.assertEqual((breaking(lock, "r"), effect(lock, "r", ("out", 3)), str(changed(lock, "r", ("out", 3)).reader("r"))),
                         ((("out", 1), ("out", 6)), ((), ("torn",)),
                          "reader r once: num c, even 0, read s, use s q, num c, same 0 4"))

    def test_changes_and_back(self):
        found = {}
        for seed in range(500):
            rng = random.Random(seed)
            design = some_design(rng, 8)
            name = rng.choice(design.readers).name
            for _ in range(4):
                change = random_change(rng, design, name)
                told = by_hand(design, name, change)
                found[change[0], told is None] = found.get((change[0], told is None), 0) + 1
                if told is None:
                    for work in (changed, led_back, effect):
                        error = raised(work, design, name, change)
                        self.assertEqual((error.__class__, error.word), (InvalidChange, "change"), (str(design), change))
                    continue
                self.assertEqual(changed(design, name, change), told, (str(design), change))
                back = led_back(design, name, change)
                self.assertEqual((back.__class__, changed(told, name, back)), (tuple, design))
        self.assertEqual(len(found), 13, found)

    def test_what_leads_back(self):
        design = home(["k: bump c, take, put s"], ["r again: num c, num c, same 0 1, read s, look s"], rounds="c 4", wide="s 3")
        for change, back, text in (
                (("out", 2), ("in", 2, "same 0 1"), "num c, num c, read s, look s"),
                (("in", 1, "even 0"), ("out", 1), "num c, even 0, num c, same 0 2, read s, look s"),
                (("in", 5, "even 1"), ("out", 5), "num c, num c, same 0 1, read s, look s, even 1"),
                (("swap", 0), None, None), (("swap", 3), None, None),
                (("swap", 2), ("swap", 2), "num c, num c, read s, same 0 1, look s")):
            if text is None:
                self.assertEqual(raised(changed, design, "r", change).__class__, InvalidChange)
                continue
            self.assertEqual(str(changed(design, "r", change).reader("r")), "reader r again: " + text)
            self.assertEqual(led_back(name="r", change=change, design=design), back)
        self.assertEqual([led_back(design, "r", change) for change in (("round", "c", None), ("wide", "s", 8), ("rooms", 1, 1),
                                                                       ("reuse", "never"))],
                         [("round", "c", 4), ("wide", "s", 3), ("rooms", 0, 0), ("reuse", "any")])
        free = design.with_rounds((("c", None),))
        self.assertEqual(led_back(free, "r", ("round", "c", 2)), ("round", "c", None))
        self.assertEqual(changed(free, "r", ("round", "c", 2)).rounds, (("c", 2),))

    def test_wrong_changes(self):
        design = home(["k: bump c, take, put s"], ["r once: num c, even 0, read s, look s"], rounds="c 4, d 2", wide="s 3",
                      slots="s t")
        wrong = [("out", 0), ("out", 2), ("out", 4), ("out", -1), ("out", True), ("out", None), ("out", "1"), ("out",),
                 ("out", 4.0), ("out", 1, 1), ["out", 1], "out/1", ("swap", 3), ("swap", 0), ("swap", 2), ("swap", False), ("swap", 1, 2),
                 ("in", 0, "even 0"), ("in", 5, "enter"), ("in", 0, "take"), ("in", 0, None), ("in", 0), ("in", True, "enter"),
                 ("in", 1, "num e"), ("in", 4, "use s q"), ("in", 0, "read x"), ("in", 3, "read s"), ("in", 0, ["enter"]),
                 ("round", "c", 1), ("round", "c", 9), ("round", "c", True), ("round", "e", 4), ("round", None, 4),
                 ("round", "c"), ("wide", "s", None), ("wide", "t", 4), ("wide", "s", 1), ("wide", ["s"], 4), ("rooms", 1),
                 ("rooms", (1, 1)), ("rooms", -1, 0), ("rooms", True, 0), ("rooms", 0, None), ("reuse", "all"),
                 ("reuse", None), ("reuse", ["any"]), ("reuse",), ("even", 0), ("", 0), (None, 0), (0,), ((), 1), ([], 1)]
        for value in any_values() + wrong:
            for work in (changed, led_back, effect):
                error = raised(work, design, "r", value)
                self.assertEqual((error.__class__, error.word), (InvalidChange, "change"), value)
                if value != "r":
                    error = raised(work, design, value, value)
                    self.assertEqual((error.__class__, error.name is value), (NoName, True))
            for word in ("out", "in", "swap", "round", "wide", "rooms", "reuse"):
                for given in ((word, value), (word, value, value), (word, "c", value), (word, 9, value)):
                    error = raised(changed, design, "r", given)
                    self.assertIn(error.__class__, (None.__class__, InvalidChange), given)
            if value != "r":
                for work in (single_changes, breaking, mending):
                    error = raised(work, design, value)
                    self.assertEqual((error.__class__, error.name is value), (NoName, True))

    def test_single_changes(self):
        for seed in range(250):
            design = some_design(random.Random(seed), 8)
            for reader in design.readers:
                told = []
                for change in [(word, at) for word in ("out", "swap") for at in range(len(reader))]:
                    after = by_hand(design, reader.name, change)
                    if after is not None and after.reader(reader.name) != reader:
                        told.append(change)
                self.assertEqual(single_changes(design, reader.name), tuple(told), str(reader))
        alike = home(["k: take, put s"], ["r once: read s, use s p, use s p"])
        self.assertEqual(single_changes(alike, "r"), (("out", 1), ("out", 2)))
        self.assertEqual(single_changes(name="r", design=home(["k: fence"], ["r once: fence"])), ())


class Effects(unittest.TestCase):
    """Promise 83."""

    def test_harms_that_come_and_go(self):
        come = go = 0
        for seed in range(120):
            rng = random.Random(seed)
            design = some_design(rng)
            name = rng.choice(design.readers).name
            ahead, breaks, mends = faults_of(design, name), [], []
            for change in single_changes(design, name):
                behind = faults_of(changed(design, name, change), name)
                told = (tuple(harm for harm in behind if harm not in ahead), tuple(harm for harm in ahead if harm not in behind))
                self.assertEqual(effect(design, name, change), told)
                breaks += [change] * bool(told[0])
                mends += [change] * bool(told[1] and not told[0])
                come, go = come + bool(told[0]), go + bool(told[1])
            self.assertEqual((breaking(design, name), mending(design, name)), (tuple(breaks), tuple(mends)))
        self.assertGreater(min(come, go), 15)

    def test_checks_behind_all_others(self):
        """A check that is put in behind all others brings neither torn nor used."""
        tried = 0
        for seed in range(150):
            rng = random.Random(seed)
            design = some_design(rng)
            reader = rng.choice(design.readers)
            nums = [at for at, text in enumerate(reader.texts) if text.startswith("num")]
            checks = ["look " + slot for slot in reader.slots] + [f"even {at}" for at in nums]
            if checks:
                change = ("in", len(reader), rng.choice(checks))
                tried += 1
                self.assertFalse({"torn", "used"} & set(effect(design, reader.name, change)[0]))
        self.assertGreater(tried, 50)

    def test_other_changes(self):
        lock = lock_home()
        self.assertEqual(effect(lock, "r", ("round", "c", None)), ((), ("fooled", "torn")))
        self.assertEqual(effect(lock.with_rounds((("c", None),)), "r", ("round", "c", 2)), (("fooled", "torn"), ()))
        self.assertEqual(effect(design=lock, name="r", change=("rooms", 0, 1)), ((), ()))
        swap = home(["k: take, write p, put s, aside, give 0"], ["r once: read s, use s p, look s"], reuse="never")
        self.assertEqual((effect(swap, "r", ("reuse", "any")), effect(swap, "r", ("out", 2))), ((("fooled",), ()), ((), ())))
        self.assertEqual(Reader.read("reader r once: read s").slots, ("s",))
