import random
import unittest

from tests.making import all_parts, joining_pair, least_of
from tests.values import any_values, home, raised
from unfooled.designs import Design
from unfooled.errors import InvalidHarm, NoName
from unfooled.faults import faults_of
from unfooled.joins import across, calm_kinds, guilty, joined, shaded, shadow
from unfooled.kinds import Kind

FOUR = ("early", "fooled", "torn", "used")
SHADOWS = ("aside", "move", "try", "wait", "give")


def four(design, name):
    return [harm for harm in faults_of(design, name) if harm in FOUR]


def joined_text(one, other, kinds):
    """The text of both designs joined, with these kinds of the other one."""
    lines, others = [str(design).split("\n") for design in (one, other)]
    pairs = {line: dict(getattr(one, line) + getattr(other, line)) for line in ("rounds", "wide")}
    told = {line: ", ".join(f"{name} {pairs[line][name] or '-'}" for name in sorted(pairs[line])) or "-" for line in pairs}
    head = ["slots " + " ".join(sorted(one.slots + other.slots)),
            "parts " + " ".join(sorted(set(one.parts) | set(other.parts))),
            "rounds " + told["rounds"], "wide " + told["wide"], lines[4], lines[5]]
    return "\n".join(head + [str(one_kind) for one_kind in list(one.kinds) + list(kinds)]
                     + [str(reader) for reader in one.readers + other.readers])


def shaded_text(one, other):
    lines, kinds, readers = str(one).split("\n")[:6], [], []
    for kind in other.kinds:
        texts = [text for text in kind.texts if text.split(" ")[0] in SHADOWS]
        kinds += [f"kind {kind.name}: " + ", ".join(texts)] * bool(texts)
    for reader in other.readers:
        readers += [f"reader {reader.name} once: enter, leave"] * ("enter" in reader.texts)
    return "\n".join(lines + [str(kind) for kind in one.kinds] + kinds + [str(reader) for reader in one.readers] + readers)


class Joins(unittest.TestCase):
    """Promises 73 to 76."""

    def slow_and_fast(self):
        slow = home(["set: take, write p, put s, aside, try, give 2"], ["r once: enter, read s, use s p, leave"])
        return slow, home(["flip: take, put t, aside, give 0"], ["q once: read t"], slots="t")

    def test_the_example(self):
        slow, fast = self.slow_and_fast()
        self.assertEqual((across(slow, fast), guilty(slow, fast, "r", "used"), calm_kinds(slow, fast, "r", "used"),
                          str(shadow(fast.kind("flip")))),
                         ((("r", "used"),), (("flip",),), ((),), "kind flip: aside, give 0"))
        self.assertEqual(across(one=fast, other=slow), (("r", "used"),))
        self.assertEqual((guilty(one=slow, other=fast, name="r", harm="early"),
                          calm_kinds(one=slow, other=fast, name="r", harm="early")), (((),), ()))
        self.assertEqual((guilty(slow, fast, "r", "torn"), calm_kinds(slow, fast, "r", "torn")), ((), (("flip",),)))

    def test_texts(self):
        for seed in range(200):
            one, other = joining_pair(random.Random(seed))
            whole = joined(one, other)
            self.assertEqual((str(whole), whole.__class__), (joined_text(one, other, other.kinds), Design))
            told = shaded(one, other)
            self.assertEqual((str(told), told.__class__), (shaded_text(one, other), Design))
            for kind in other.kinds:
                texts = [text for text in kind.texts if text.split(" ")[0] in SHADOWS]
                self.assertEqual(shadow(kind), Kind(kind.name, texts) if texts else None)

    def test_shadows(self):
        for text, told in (("k: take, write p, put s", None), ("k: bump c, fence, over s p", None),
                           ("k: take, aside, wait, put s, give 3, give 0 free, move, fence, try",
                            "kind k: aside, wait, give 3, give 0 free, move, try")):
            kind = Kind.read("kind " + text)
            self.assertEqual(None if told is None else str(shadow(kind)), told)
            self.assertEqual(shadow(kind=kind) is None, told is None)

    def test_nothing_is_lost(self):
        """Harms of the one alone happen joined, too; the shadows are all that counts."""
        shades = found = 0
        for seed in range(200):
            one, other = joining_pair(random.Random(seed))
            whole, dark = joined(one, other), shaded(one, other)
            texts = [text for kind in one.kinds + other.kinds for text in kind.texts]
            for reader in one.readers:
                mine = four(whole, reader.name)
                self.assertLessEqual(set(four(one, reader.name)), set(mine))
                found += mine != four(one, reader.name)
                if one.rooms[1] == 0 and not any(text.endswith("free") for text in texts):
                    shades += 1
                    self.assertEqual(four(dark, reader.name), mine, (str(one), str(other)))
        self.assertGreater(shades, 50)
        self.assertGreater(found, 3)

    def test_across(self):
        found = set()
        for seed in range(200):
            one, other = joining_pair(random.Random(seed))
            whole, told = joined(one, other), []
            for design in (one, other):
                for reader in design.readers:
                    told += [(reader.name, harm) for harm in four(whole, reader.name)
                             if harm not in four(design, reader.name)]
            self.assertEqual(across(one, other), tuple(sorted(told)))
            found.update(told)
        self.assertGreater(len(found), 2, found)

    def test_guilty_and_calm_kinds(self):
        """Against trying all lots; each tells the other."""
        kinds = {}
        for seed in range(260):
            rng = random.Random(seed)
            one, other = joining_pair(rng)
            name, harm = rng.choice(one.readers).name, rng.choice(["early", "fooled", "torn", "used", "used"])
            lots = all_parts(sorted(kind.name for kind in other.kinds))
            harmed = []
            for lot in lots:
                beside = Design.read(joined_text(one, other, [kind for kind in other.kinds if kind.name in lot]))
                if harm in faults_of(beside, name):
                    harmed.append(lot)
            told, calm = guilty(one, other, name, harm), calm_kinds(one, other, name, harm)
            self.assertEqual(told, least_of(harmed))
            rest = [lot for lot in lots if lot not in harmed]
            self.assertEqual(calm, tuple(lot for lot in rest if not any(set(lot) < set(more) for more in rest)))
            for lot in lots:
                self.assertEqual(lot in rest, not any(set(one_lot) <= set(lot) for one_lot in told))
                self.assertEqual(lot in rest, any(set(lot) <= set(one_lot) for one_lot in calm))
            key = "never" if told == () else "anyway" if told == ((),) else "some"
            kinds[key] = kinds.get(key, 0) + 1
        self.assertEqual(len(kinds), 3, kinds)

    def test_two_kinds_together(self):
        """Neither kind of the other one alone does harm: one gives back what the other one ages."""
        one = home(["set: take, write p, put s, aside"], ["r once: read s, use s p"])
        other = home(["old: move", "zap: give 1"], ["q once: read t"], slots="t")
        self.assertEqual(guilty(one, other, "r", "used"), (("old", "zap"),))
        self.assertEqual(calm_kinds(one, other, "r", "used"), (("old",), ("zap",)))
        either = other.with_kind(Kind("aaaa", ["give 0"]))
        self.assertEqual(guilty(one, either, "r", "used"), (("aaaa",), ("old", "zap")))
        self.assertEqual(calm_kinds(one, either, "r", "used"), (("old",), ("zap",)))

    def test_readers_of_the_other_one(self):
        """All of them stand beside, whichever kinds do."""
        one = home(["set: take, put s, aside, try, give 1, try, give 2"], ["r once: enter, read s, use s p, leave"])
        other = home(["flip: give 1"], ["q once: enter, leave", "o once: read t"], slots="t")
        self.assertEqual(guilty(one, other, "r", "used"), least_by_trying(one, other, "r", "used"))

    def test_errors(self):
        slow, fast = self.slow_and_fast()
        for value in any_values() + ["q", "back"]:
            for work in (guilty, calm_kinds):
                if value != "r":
                    error = raised(work, slow, fast, value, value)
                    self.assertEqual((error.__class__, error.name is value), (NoName, True))
                if value not in FOUR:
                    self.assertEqual(raised(work, slow, fast, "r", value).__class__, InvalidHarm, value)


def least_by_trying(one, other, name, harm):
    found = []
    for lot in all_parts(sorted(kind.name for kind in other.kinds)):
        beside = Design.read(joined_text(one, other, [kind for kind in other.kinds if kind.name in lot]))
        if harm in faults_of(beside, name):
            found.append(lot)
    return least_of(found)
