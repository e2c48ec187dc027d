import random
import unittest

from tests.making import KIND_WORDS, random_design
from tests.oracle import Watch
from tests.values import any_values, home, raised
from unfooled.errors import NoName
from unfooled.scene import Scene, event_words
from unfooled.watched import beginning, led_on


def candidates(scene, others):
    """Events that are possible, those of updates and of the watched reader more often."""
    design = scene.design
    texts = ["step"] * 3 + ["flush", "next 0", "drain 0"]
    texts += ["begin " + kind.name for kind in design.kinds]
    texts += [f"step {cell}" for cell in scene.house.back] * 2
    for number in range(1, len(scene.guests)):
        texts += [f"next {number}", f"drain {number}"]
    if len(scene.guests) < 1 + others:
        texts += ["start " + reader.name for reader in design.readers]
    return [text for text in texts if scene.may(event_words(design, text))]


def chosen(rng, texts, lazy):
    updates = [text for text in texts if text.split(" ")[0] in ("step", "flush", "begin")]
    return rng.choice(updates if updates and rng.random() < lazy else texts)


def labels_of(design, watch, texts):
    """The labels by which events of the watched reader and of updates are told."""
    held = watch.held()
    found = set()
    for text in texts:
        words = event_words(design, text)
        if words[0] in ("next", "drain"):
            if words[1] == watch.number:
                found.add(("own", words[0]))
        elif words[0] == "step" and len(words) == 2 and words[1] in held:
            found.add(("update", "back", held.index(words[1])))
        elif words[0] == "step":
            found.add(("update", "step"))
        elif words[0] != "start":
            found.add(("update", text))
    return found


def rank(label, design):
    """A key by which labels stand in their order."""
    kinds = ["begin " + kind.name for kind in design.kinds]
    order = [("own", "drain"), ("own", "next")] + [("update", kind) for kind in kinds]
    order += [("update", "flush"), ("update", "back"), ("update", "step"), ("kept",), ("spared",)]
    if label[0] == "spared":
        return order.index(("spared",)), len(label[1]), label[1]
    return order.index(label[:2]), 0, label[2:]


class Beginnings(unittest.TestCase):
    """Promises 20 to 22, by hand."""

    def test_the_beginning(self):
        design = home(["k: take, put t", "l: bump c"], ["r once: read s, use s p", "n again: num d"],
                      slots="s t", rounds="c 4, d -")
        first = (("", 0, "none", (), (), False, False), (), (("new", ()), ("new", ())), (0, 0),
                 ("none", (), ()), (0, (), (), (), True, "fine", ()))
        self.assertEqual((beginning(design, "r"), beginning(name="n", design=design)), (first, first))
        rows = led_on(design=design, name="r", standing=first)
        self.assertEqual([row[0] for row in rows],
                         [("own", "next"), ("update", "begin k"), ("update", "begin l")])
        self.assertEqual(rows[0][1][1:], (("hung",), ((0, ()), ("new", ())), (0, 0),
                                          ("none", (), ()),
                                          (1, (("s", 0, "living", 0, ()),), (), (), True, "fine", ())))
        self.assertEqual(rows[0][2:], ((), ("read",)))
        self.assertEqual(rows[1][1][0], ("k", 0, "none", (), (), False, False))

    def test_names_that_are_none(self):
        design = home(["k: take, put s"], ["r once: read s"])
        for value in any_values():
            if value != "r":
                for error in (raised(beginning, design, value),
                              raised(led_on, design, value, beginning(design, "r"))):
                    self.assertEqual(error.__class__, NoName)
                    self.assertIs(error.name, value)

    def go(self, design, name, labels):
        standing, row = beginning(design, name), None
        for label in labels:
            row = [one for one in led_on(design, name, standing) if one[0] == label][0]
            standing = row[1]
        return row

    def test_over_and_gone(self):
        design = home(["k: take, put s, aside, give 0", "n: fence"],
                      ["r again: read s, use s p, look s", "o once: read s"])
        step, own = ("update", "step"), ("own", "next")
        swap = [("update", "begin k")] + [step] * 4
        self.assertEqual(self.go(design, "r", swap)[3], ("over",))
        self.assertEqual(self.go(design, "r", [own] + swap)[3], ("over", "gone"))
        self.assertEqual(self.go(design, "r", [own, own] + swap)[3], ("over", "gone"))
        self.assertEqual(self.go(design, "r", [own, ("update", "begin n"), step])[3], ("over",))
        self.assertEqual(self.go(design, "o", swap + [own])[3], ("read", "accepted"))
        again = self.go(design, "r", [own, own] + swap + [own])
        self.assertEqual((again[2:], again[1][5]),
                         (((), ("look", "again")), (0, (), (), (), True, "fine", ())))
        met = self.go(design, "r", [own] + swap + [own])
        self.assertEqual((met[2:], met[1][5]),
                         ((("used",), ("use",)),
                          (2, (("s", 0, "over", 0, ()),), (), (), False, "spoilt", ())))
        back = swap + [("update", "begin k"), ("update", "back", 0), step]
        fooled = self.go(design, "r", [own, own] + back + [own])
        self.assertEqual(fooled[1:], (None, ("fooled",), ("look", "accepted")))

    def test_waiting_and_leaving(self):
        design = home(["k: take, write p, put s, aside, give 0, take, put s"],
                      ["r once: read s, use s p", "m once: read s, mark h s, clear h"], rooms="2 1")
        step, own, flush = ("update", "step"), ("own", "next"), ("update", "flush")
        row = self.go(design, "r", [("update", "begin k"), step, step])
        self.assertEqual(row[1][0], ("k", 2, "new", (), ("write", "new", "p"), False, False))
        row = self.go(design, "r", [("update", "begin k"), step, step, flush, step])
        self.assertEqual(row[1][:3], (("k", 3, "none", (), ("put", "s", "new", ("p",)), False, False),
                                      ("out",), ((0, ()),)))
        labels = [("update", "begin k"), step, step, flush, step, step, step, ("update", "back", 0)]
        row = self.go(design, "r", labels)
        self.assertEqual(row[1][:3], (("k", 6, 0, (), ("put", "s", "new", ("p",)), False, False),
                                      ("hand",), ((0, ()),)))
        row = self.go(design, "m", [own, own, own])
        self.assertEqual(row[3], ("clear", "accepted"))
        row = self.go(design, "m", [own, own])
        self.assertEqual(row[1][4], ("none", (("mark", "h", 0),), ()))
        row = self.go(home(["k: take, put s"], ["m again: read s, mark h s, clear h, num c, even 3"],
                           rooms="2 0", rounds="c 3"), "m", [own, own, own, ("own", "drain")])
        self.assertEqual(row[1][4], ("none", (("mark", "h", "none"),), (("h", 0),)))

    def test_one_content_of_one_update(self):
        design = home(["k: over s p, take, put s, aside, give 0, take, write p, write p, put s"],
                      ["r once: read s, use s p, use s p"], rooms="0 1")
        step, own, flush = ("update", "step"), ("own", "next"), ("update", "flush")
        labels = [("update", "begin k"), step, flush, step, step, step, step, ("update", "back", 0),
                  own, flush, step, flush, own]
        row = self.go(design, "r", labels)
        self.assertEqual(row[1][0][:4], ("k", 7, 0, ("p",)))
        self.assertEqual(row[1][5][1], (("s", 0, "living", 0, ("p",)),))
        row = self.go(design, "r", labels + [step, flush])
        self.assertEqual(row[1][5][1], (("s", 0, "living", 0, ("p",)),))
        self.assertEqual(self.go(design, "r", labels + [step, flush, own])[2], ("early",))
        row = self.go(design, "r", labels[:-3] + [own, step, flush])
        self.assertEqual(row[1][5][1], (("s", 0, "living", 0, ()),))

    def test_tries_and_waits(self):
        design = home(["k: aside, try", "w: wait"], ["r once: enter, read s, use s p, leave"])
        step, own = ("update", "step"), ("own", "next")
        grown = [("update", "begin k"), step, step]
        self.assertEqual(self.go(design, "r", grown)[1][0][6], True)
        rows = led_on(design, "r", self.go(design, "r", grown + [("update", "begin k"), step])[1])
        self.assertEqual([row[0] for row in rows], [own, step, ("kept",)])
        waited = grown + [("update", "begin w"), step]
        self.assertEqual(self.go(design, "r", waited)[1][0][6], False)
        buffered = design.with_rooms((1, 0))
        self.assertEqual(self.go(buffered, "r", waited)[1][0][6], True)
        past = self.go(design, "r", [own] + grown)
        self.assertEqual(past[1][4][0], "past")
        rows = led_on(design, "r", self.go(design, "r", [own] + grown + [("update", "begin k"), step])[1])
        self.assertEqual([row[0] for row in rows], [own, step])
        barred = self.go(design, "r", [own, ("update", "begin w")])
        self.assertEqual(barred[1][0][5], True)
        self.assertEqual([row[0] for row in led_on(design, "r", barred[1])], [own])
        freed = self.go(design, "r", [own, ("update", "begin w"), own, own])
        self.assertEqual(freed[1][0][5], True)

    def test_spared(self):
        design = home(["k: take, put s, take, put t, aside, give 0 free"],
                      ["r once: read s, read t, use s p", "m once: read s, mark h s",
                       "n once: read t, mark h t"], slots="s t")
        step, own = ("update", "step"), ("own", "next")
        labels = [own, own, ("update", "begin k")] + [step] * 5
        standing = self.go(design, "r", labels)[1]
        rows = led_on(design, "r", standing)
        self.assertEqual([row[0] for row in rows], [own, step, ("spared", (0,)), ("spared", (1,)),
                                                    ("spared", (0, 1))])
        self.assertEqual([row[1][1] for row in rows[1:]], [("back", "back"), (0, "back"),
                                                           ("back", 0), (0, 0)])
        one = home(["k: take, put s, take, put t, aside, give 0 free"],
                   ["r once: read s, read t, use s p", "m once: read s, mark h s"], slots="s t",
                   reuse="never")
        rows = led_on(one, "r", self.go(one, "r", labels)[1])
        self.assertEqual([row[0] for row in rows], [own, step, ("spared", (0,))])
        leaving = home(["k: take, put s, aside, give 0 free"], ["r once: read t", "m once: read s, mark h s"],
                       rooms="0 1", slots="s t")
        labels = [("update", "begin k"), step, step, step]
        rows = led_on(leaving, "r", self.go(leaving, "r", labels)[1])
        self.assertEqual([row[0] for row in rows], [own, ("update", "flush"), step, ("spared", (0,))])
        rows = led_on(leaving, "r", self.go(leaving, "r", labels + [("update", "flush")])[1])
        self.assertEqual([row[0] for row in rows], [own, step])
        bare = home(["k: take, put s, aside, give 0 free"], ["r once: read s, use s p"])
        rows = led_on(bare, "r", self.go(bare, "r", [own, ("update", "begin k")] + [step] * 3)[1])
        self.assertEqual([row[0] for row in rows], [own, step])


class Ways(unittest.TestCase):
    """Promises 20 to 23, against the stage along long ways."""

    def test_one_reader_alone(self):
        met = set()
        for seed in range(500):
            rng = random.Random(seed)
            self.go_along(rng, random_design(rng), 0, met)
        self.assertIn("back", met)
        self.assertIn("flush", met)

    def test_cells_that_are_leaving(self):
        """Cells that come back while memory still has them."""
        met = set()
        for kind in ("k: over s p, take, put s, aside, give 0, take, write p, write p, put s",
                     "k: take, write p, put s, aside, give 0, take, over s p, put t",
                     "k: take, put s, aside, give 0, over s p, take, over s p, write p, put s"):
            for reader in ("r again: read s, use s p, use s p, look s, use s p",
                           "r again: read s, read t, use s p, use t p, use s p",
                           "r again: read t, use t p, read s, look s, use s p"):
                design = home([kind], [reader], slots="s t", rooms="0 1")
                for seed in range(40):
                    self.go_along(random.Random(seed), design, 0, met, 0.9)
        self.assertIn("back", met)

    def test_beside_others(self):
        met = set()
        for flavour in sorted(KIND_WORDS):
            for seed in range(160):
                rng = random.Random(1000 + seed)
                design = random_design(rng, flavour=flavour)
                self.go_along(rng, design, rng.choice([1, 2, 3]), met)
        self.assertIn("kept", met)

    def go_along(self, rng, design, others, met, idle=0):
        name = rng.choice(design.readers).name
        scene = Scene(design)
        scene.do(event_words(design, "start " + name))
        watch = Watch(scene, 0)
        standing = beginning(design, name)
        self.assertEqual(watch.standing(), standing)
        lazy = idle or rng.choice([0.3, 0.6, 0.8])
        for _ in range(50):
            texts = candidates(scene, others)
            rows = led_on(design, name, standing)
            labels = [row[0] for row in rows]
            self.assertEqual(labels, sorted(labels, key=lambda label: rank(label, design)))
            self.assertEqual(len(labels), len(set(labels)))
            told = {label for label in labels if label[0] not in ("kept", "spared")}
            possible = labels_of(design, watch, texts)
            # Others can keep waits and moves from being done: that adds nothing.
            self.assertEqual(told if others == 0 else told | possible, told)
            if others == 0:
                self.assertEqual(possible, told)
            if texts == []:
                return
            row = watch.do(event_words(design, chosen(rng, texts, lazy)))
            if row is None:
                self.assertEqual(watch.standing(), standing)
                continue
            self.assertIn(row, rows)
            met.update(row[0])
            if row[1] is None:
                return
            standing = row[1]
