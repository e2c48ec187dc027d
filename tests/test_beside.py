import random
import unittest

from tests.making import all_parts, least_of, near_design, random_design, random_events, random_kind, random_reader
from tests.values import any_values, home, raised
from unfooled.beside import (are_one, behind, bridged, bridges, felt, least_bridges, two_moments,
                             with_both)
from unfooled.designs import Design
from unfooled.errors import NoName
from unfooled.faults import faults_of
from unfooled.kinds import Kind
from unfooled.readers import Reader
from unfooled.scene import Scene, event_words
from unfooled.stage import play

PAIR = ["ks: take, write p, put s", "kt: take, write p, put t"]
ABC = "abcdefghijklmnopqrstuvwxyz"
FOUR = ("early", "fooled", "torn", "used")


def pair_home(**lines):
    given = {"slots": "s t", "reuse": "never"}
    given.update(lines)
    return home(PAIR, ["x once: read s, use s p", "y once: read t, use t p"], **given)


def pair_design(rng, steps=4):
    """A design with two readers of which none reads a slot that the other one reads."""
    while True:
        counters = rng.choice([[], ["c"]])
        words = ["read", "use", "use", "look"] + (["num", "num", "same", "even"] if counters else [])
        readers = [random_reader(rng, name, [slot], ["p", "q"], counters, words, steps)
                   for name, slot in (("r", "s"), ("n", "t"))]
        kinds = [random_kind(rng, name, ["s", "t"], ["p", "q"], counters,
                             ["write", "put", "over", "over", "take", "aside", "give"] + ["bump", "bump"] * len(counters), 5)
                 for name in "kl"[:rng.choice([1, 2])]]
        texts = [text for kind in kinds for text in kind.texts]
        if any(text.startswith(("put", "over")) for text in texts):
            wide = [("s", rng.choice([2, 3]))] if rng.random() < 0.3 else []
            return Design(["s", "t"], ["p", "q"], kinds, readers, [(one, rng.choice([None, 2, 4])) for one in counters],
                          wide, (0, rng.choice([0, 1])), rng.choice(["any", "never"]))


APART = (["take, write p, put s", "take, write p, put t"], ["bump c, over s p, over t p, bump c"],
         ["take, write p, put s, aside, give 0", "over t p"], ["over s p, bump c", "bump c, over t p"],
         ["take, write p, put s, bump c", "over t p, bump c"], ["take, put s, take, put t"],
         ["take, write p, put s, aside, give 0", "take, write p, put t, aside, give 0"])


def parting_design(rng):
    """A design whose two readings can easily part."""
    kinds = [Kind(name, texts.split(", ")) for name, texts in zip("kl", rng.choice(APART))]
    ends = rng.choice([[], [], ["look {}"], ["num c"]])
    readers = [Reader(name, [text.format(slot) for text in ["read {}", "use {} p"] + ends], rng.choice(["once", "again"]))
               for name, slot in (("r", "s"), ("n", "t"))]
    return Design(["s", "t"], ["p", "q"], kinds, readers, [("c", rng.choice([None, None, 2, 4]))],
                  rng.choice([[], [], [("s", 2)]]), (0, rng.choice([0, 0, 1])), rng.choice(["any", "never"]))


def some_pair(rng, steps=4):
    return parting_design(rng) if rng.random() < 0.5 else pair_design(rng, steps)


def both_texts(one, other, ahead=0):
    """The texts of both readers, the numbers in checks greater by those of the steps ahead."""
    told = []
    for at, text in enumerate(one.texts + other.texts):
        words, by = text.split(" "), ahead + (len(one.texts) if at >= len(one.texts) else 0)
        if words[0] in ("same", "even"):
            words[1:] = [str(int(word) + by) for word in words[1:]]
        told.append(" ".join(words))
    return told


def first_free(design):
    names = list(design.slots + design.parts + design.counters)
    names += [script.name for script in design.kinds + design.readers]
    return next(name for name in list(ABC) + [a + b for a in ABC for b in ABC] if name not in names)


def bridged_line(design, lot):
    """The text of the reader with bridges, by hand."""
    one, other = design.readers
    counters = sorted(text.split(" ")[1] for text in lot if text.startswith("same"))
    texts = ["num " + counter for counter in counters] + both_texts(one, other, len(counters))
    texts += sorted(text for text in lot if text.startswith("look"))
    for at, counter in enumerate(counters):
        texts += ["num " + counter, f"same {at} {len(texts)}"]
    return f"reader {first_free(design)} once: " + ", ".join(texts)


class Beside(unittest.TestCase):
    """Promises 68 to 70."""

    def test_the_example(self):
        pair = pair_home()
        self.assertEqual((are_one(pair, "x", "y"), bridges(pair, "x", "y"), least_bridges(pair, "x", "y")),
                         (False, ("look s", "look t"), (("look s",),)))
        back = Design.read(str(pair).replace("put s", "put s, aside, give 0").replace("never", "any"))
        self.assertEqual(least_bridges(back, "x", "y"), ())
        alone = Design.read(str(pair).replace("\nkind kt: take, write p, put t", ""))
        self.assertEqual((are_one(alone, "x", "y"), least_bridges(alone, "x", "y"), two_moments(alone, "x", "y")),
                         (True, ((),), None))

    def test_behind(self):
        found = 0
        for seed in range(150):
            design = pair_design(random.Random(seed), 6)
            one, other = design.readers
            told = behind(one, other, "zz")
            self.assertEqual((str(told), told.__class__),
                             ("reader zz once: " + ", ".join(both_texts(one, other)), Reader))
            found += "same" in str(other)
            whole = with_both(design, "r", "n", "both")
            self.assertEqual((str(whole), whole.__class__),
                             (str(design) + "\n" + str(told).replace("zz", "both"), Design))
            self.assertEqual(str(with_both(design, "n", "r", "a")), str(design) + "\n" + str(behind(other, one, "a")))
        self.assertGreater(found, 5)
        again = Reader("r", ["num c", "even 0"], "again")
        self.assertEqual(str(behind(name="q", one=again, other=again)), "reader q once: num c, even 0, num c, even 2")

    def test_are_one(self):
        """By the harm `torn` of both, and by random histories."""
        found = {True: 0, False: 0}
        for seed in range(120):
            rng = random.Random(seed)
            design = some_pair(rng)
            name = first_free(design)
            whole = with_both(design, "r", "n", name)
            told, story = are_one(design, "r", "n"), two_moments(design, "r", "n")
            self.assertIs(told, "torn" not in faults_of(whole, name))
            self.assertEqual(story is None, told)
            found[told] += 1
            if told:
                for _ in range(6):
                    events, scene = random_events(rng, whole, 40, 3)
                    torn = [at for at, harm in scene.met if harm == "torn"]
                    numbers = [int(events[at].split(" ")[1]) for at in torn]
                    self.assertNotIn(name, [scene.guests[number].script.name for number in numbers])
            else:
                seen = play(whole, story)
                self.assertIn((len(story) - 1, "torn"), seen.met)
                word, number = story[-1].split(" ")
                self.assertEqual((word, seen.readers[int(number)][0]), ("next", name))
        self.assertGreater(min(found.values()), 15, found)

    def test_each_was_right(self):
        """Neither reading is torn by itself, in a story by which both part."""
        pair = pair_home()
        story = two_moments(pair, "x", "y")
        seen = play(with_both(pair, "x", "y", "a"), story)
        self.assertEqual((story[0], seen.runs[-1][1], seen.runs[-1][3]), ("start a", "accepted", None))

    def test_new_names(self):
        names = list(ABC)
        kinds = [Kind(name, ["take", "put " + names[6]]) for name in names[:6]]
        readers = [Reader(name, ["read " + slot]) for name, slot in zip(names[14:18], names[6:10])]
        design = Design(names[6:10], names[10:14], kinds, readers, [(name, None) for name in names[18:22]])
        self.assertEqual(bridged(design, "o", "p", ()).readers[-1].name, "w")
        more = design.with_rounds([(name, 2) for name in names[18:]])
        self.assertEqual(bridged(more, "o", "p", ()).readers[-1].name, "aa")
        more = more.with_reader(Reader("aa", ["enter"]))
        self.assertEqual(bridged(more, "o", "p", ()).readers[-1].name, "ab")
        marks = home(["b: take, put s"], ["a once: read s, mark c s", "d once: read t"], slots="s t")
        self.assertEqual(bridged(marks, "a", "d", ()).readers[-1].name, "c")

    def test_bridges(self):
        for seed in range(120):
            rng = random.Random(seed)
            design = some_pair(rng)
            one, other = design.readers
            texts = bridges(design, "r", "n")
            slots = sorted(one.slots + other.slots)
            self.assertEqual(texts, tuple(["look " + slot for slot in slots]
                                          + ["same " + counter for counter in design.counters]))
            lot = rng.sample(texts, rng.randint(0, len(texts)))
            given = list(lot)
            told = bridged(design, "r", "n", rng.choice([lot, tuple(lot)]))
            self.assertEqual((str(told), lot), (str(design) + "\n" + bridged_line(design, lot), given))
        two = home(["k: bump d, take, put s, bump c"], ["x again: num c, read s, even 0", "y once: num d, num d, same 0 1, read t"],
                   slots="s t", rounds="c 2, d 4")
        self.assertEqual(str(bridged(two, "x", "y", ["same d", "look t", "same c"]).readers[-1]),
                         "reader a once: num c, num d, num c, read s, even 2, num d, num d, same 5 6, read t, look t, "
                         "num c, same 0 10, num d, same 1 12")

    def test_least_bridges(self):
        """Against trying all lots; more checks never hurt."""
        found = {}
        for seed in range(70):
            rng = random.Random(seed)
            design = some_pair(rng, 3)
            name = first_free(design)
            lots = all_parts(bridges(design, "r", "n"))
            enough = [lot for lot in lots if "torn" not in faults_of(bridged(design, "r", "n", lot), name)]
            told = least_bridges(design, "r", "n")
            self.assertEqual(told, least_of(enough), str(design))
            for lot in lots:
                self.assertEqual(lot in enough, any(set(one) <= set(lot) for one in told))
            self.assertIs(are_one(design, "r", "n"), told == ((),))
            key = told if told in ((), ((),)) else "some"
            found[key] = found.get(key, 0) + 1
        self.assertGreater(min(found.values()), 4, found)
        self.assertEqual(len(found), 3)

    def test_names_that_are_none(self):
        design = pair_home()
        for value in any_values():
            if value in ("x", "y"):
                continue
            for work, more in ((with_both, ("both",)), (are_one, ()), (two_moments, ()), (bridges, ()),
                               (bridged, ((),)), (least_bridges, ())):
                for given in ((value, None), (value, "y"), ("x", value)):
                    error = raised(work, design, *given, *more)
                    self.assertEqual(error.__class__, NoName, (work, value))
                    self.assertIs(error.name, value)
            error = raised(felt, design, value)
            self.assertEqual((error.__class__, error.name is value), (NoName, True))
            # The new name comes last; it is the name of nothing else.
            error = raised(with_both, design, "x", "zz", value)
            self.assertEqual(error.name, "zz")
            if value not in ("r", "k", "zz", "any", "once", "used", "step", "take"):
                error = raised(with_both, design, "x", "y", value)
                self.assertEqual((error.__class__, error.name is value), (NoName, True))
        for name in ("s", "t", "p", "ks", "kt", "x", "y"):
            self.assertEqual(raised(with_both, design, "x", "y", name).name, name)
        self.assertIs(are_one(other="y", one="x", design=design), False)
        self.assertEqual(least_bridges(other="y", one="x", design=design), (("look s",),))


def felt_by_hand(design, name):
    """The lines of what a reader feels."""
    own = design.reader(name)
    words = [text.split(" ") for text in own.texts]
    used = {row[2] for row in words if row[0] == "use"}
    counted = {row[1] for row in words if row[0] == "num"}
    looked = {row[1] for row in words if row[0] == "look"}
    scripts = []
    for kind in design.kinds:
        rows = [text.split(" ") for text in kind.texts]
        kept = [" ".join(row) for at, row in enumerate(rows) if at == len(rows) - 1
                or not (row[0] in ("write", "over") and row[-1] not in used or row[0] == "bump" and row[1] not in counted)]
        scripts.append(f"kind {kind.name}: " + ", ".join(kept))
    for reader in design.readers:
        if reader.name == name:
            scripts.append(str(reader))
        elif "enter" in reader.texts:
            scripts.append(f"reader {reader.name} once: enter, leave")
    texts = [text.split(" ") for line in scripts for text in line.split(": ")[1].split(", ")]
    parts = [part for part in design.parts if any(row[0] in ("write", "over", "use") and row[-1] == part for row in texts)]
    counters = {row[1] for row in texts if row[0] in ("num", "bump")}
    rounds = [f"{counter} {size or '-'}" for counter, size in design.rounds if counter in counters]
    wide = [f"{slot} {size}" for slot, size in design.wide if slot in looked]
    lines = str(design).split("\n")
    head = [lines[0], "parts " + " ".join(parts or design.parts[:1]), "rounds " + (", ".join(rounds) or "-"),
            "wide " + (", ".join(wide) or "-"), lines[4], lines[5]]
    return "\n".join(head + scripts)


def house_design(rng):
    """A design with more than one reader feels, more often than not."""
    design = near_design(rng) if rng.random() < 0.4 else random_design(rng)
    if rng.random() < 0.6 and "zz" not in design.parts:
        more = Reader("v", rng.choice([["enter", "read s", "use s zz", "leave"], ["num z", "read s", "mark h s"], ["read s"]]))
        design = Design(design.slots, design.parts + ("zz",), design.kinds, design.readers + (more,),
                        design.rounds + (("z", rng.choice([None, 3])),), design.wide, design.rooms, design.reuse)
        kind = rng.choice(design.kinds)
        for text in rng.sample(["over s zz", "bump z", "over s p"], rng.choice([1, 2])):
            kind = kind.with_more(rng.randint(0, len(kind)), text)
        design = design.with_kind(kind)
    return design


class Felt(unittest.TestCase):
    """Promises 71 and 72."""

    def test_by_hand(self):
        less = 0
        for seed in range(250):
            design = house_design(random.Random(seed))
            for reader in design.readers:
                told = felt(design, reader.name)
                self.assertEqual((str(told), told.__class__), (felt_by_hand(design, reader.name), Design))
                self.assertEqual(felt(told, reader.name), told)
                less += told != design
        self.assertGreater(less, 200)

    def test_what_stays(self):
        design = home(["k: over s q, bump d, over s q", "l: bump d"], ["r again: read s, use t p", "n again: enter, read s",
                                                                       "m once: leave"][1:],
                      parts="p q", rounds="c 2, d -", wide="s 4")
        self.assertEqual(str(felt(design, "n")), "slots s\nparts q\nrounds d -\nwide -\nrooms 0 0\nreuse any\n"
                         "kind k: over s q\nkind l: bump d\nreader n again: enter, read s")
        self.assertEqual(str(felt(name="m", design=design)), "slots s\nparts q\nrounds d -\nwide -\nrooms 0 0\nreuse any\n"
                         "kind k: over s q\nkind l: bump d\nreader n once: enter, leave\nreader m once: leave")
        bare = home(["k: take, write q, put s"], ["r once: read s"], parts="p q")
        self.assertEqual(felt(bare, "r").parts, ("p",))

    def test_the_same_harms(self):
        found = 0
        for seed in range(160):
            design = house_design(random.Random(seed))
            design = design.with_rooms((design.rooms[0], 0))
            if any(text.endswith("free") for kind in design.kinds for text in kind.texts):
                continue
            for reader in design.readers:
                told = faults_of(felt(design, reader.name), reader.name)
                mine = faults_of(design, reader.name)
                self.assertEqual([harm for harm in told if harm != "back"], [harm for harm in mine if harm != "back"])
                found += mine != ()
        self.assertGreater(found, 50)
