import random
import unittest

from tests.making import all_parts, fence_design, least_of
from tests.test_papers import with_bools
from tests.values import any_values, home, raised
from unfooled.buffers import places
from unfooled.designs import Design
from unfooled.errors import InvalidHarm
from unfooled.faults import faults, faults_of
from unfooled.fences import (fence_cuts, fence_paper, fence_paper_holds, fenced, is_clear, is_fenced,
                             least_fences)
from unfooled.papers import certificate
from unfooled.stage import play

HARMS = ("early", "fooled", "torn", "used")


def some_harms(rng):
    return tuple(sorted(rng.sample(HARMS, rng.choice([1, 1, 2, 3]))))


def texts_with_fences(texts, numbers):
    """The texts with a fence ahead of these steps; each step is told with the number it had."""
    rows = []
    for at, text in enumerate(texts):
        rows += [(-1, "fence")] if at in numbers else []
        rows.append((at, text))
    where = {at: new for new, (at, _) in enumerate(rows)}
    told = []
    for _, text in rows:
        words = text.split(" ")
        if words[0] in ("same", "even"):
            words[1:] = [str(where[int(word)]) for word in words[1:]]
        told.append(" ".join(words))
    return told


def by_hand(design, lot):
    """The text of the fenced design."""
    lines = str(design).split("\n")[:6]
    for side, scripts in (("kind", design.kinds), ("reader", design.readers)):
        for script in scripts:
            numbers = [at for one, name, at in lot if (one, name) == (side, script.name)]
            head = str(script).split(": ")[0]
            lines.append(head + ": " + ", ".join(texts_with_fences(script.texts, numbers)))
    return "\n".join(lines)


class Fences(unittest.TestCase):
    """Promises 56 and 57."""

    def home(self):
        return home(["swap: take, write p, put s, aside, wait, give 0"],
                    ["see once: enter, read s, use s p, leave"], rooms="1 1")

    def test_the_example(self):
        design = self.home()
        at3, at4, see = ("kind", "swap", 3), ("kind", "swap", 4), ("reader", "see", 1)
        self.assertEqual((least_fences(design, ("used",)), fence_cuts(design, ("used",))),
                         (((at3, see), (at4, see)), ((see,), (at3, at4))))
        whole = fenced(design, [at4, see])
        self.assertEqual((is_clear(whole, ("used",)), str(whole.reader("see"))),
                         (True, "reader see once: enter, fence, read s, use s p, leave"))
        self.assertEqual((is_fenced(design, ("used",), (see, at3)), is_fenced(design, ("used",), (at3,)),
                          is_fenced(lot=(), harms=(), design=design)), (True, False, True))

    def test_fenced_texts(self):
        for seed in range(200):
            rng = random.Random(seed)
            design = fence_design(rng, 9)
            lot = rng.sample(places(design), rng.randint(0, len(places(design))))
            given = list(lot)
            told = fenced(design, rng.choice([lot, tuple(lot)]))
            self.assertEqual((str(told), told.__class__), (by_hand(design, lot), Design))
            self.assertEqual(lot, given)

    def test_clear(self):
        found = {True: 0, False: 0}
        for seed in range(150):
            rng = random.Random(seed)
            design, harms = fence_design(rng, 9), some_harms(rng)
            lot = rng.sample(places(design), rng.randint(0, len(places(design))))
            told = is_clear(design, harms)
            self.assertIs(told, not set(harms) & set(faults(design)))
            self.assertIs(is_fenced(design, harms, lot), not set(harms) & set(faults(fenced(design, lot))))
            found[told] += 1
        self.assertGreater(min(found.values()), 10)

    def test_every_lot(self):
        """Least lots and cuts against trying every lot; more fences never harm."""
        kinds = {}
        for seed in range(120):
            rng = random.Random(seed)
            design, harms = fence_design(rng, 4), some_harms(rng)
            if seed % 12 == 0:
                design, harms = self.home(), some_harms(rng)
            lots = all_parts(places(design))
            enough = [lot for lot in lots if not set(harms) & set(faults(fenced(design, lot)))]
            least, cuts = least_fences(design, harms), fence_cuts(design, harms)
            self.assertEqual(least, least_of(enough), (str(design), harms))
            barred = [lot for lot in lots if tuple(one for one in places(design) if one not in lot) not in enough]
            self.assertEqual(cuts, least_of(barred))
            for lot in lots:
                self.assertEqual(lot in enough, any(set(one) <= set(lot) for one in least))
                self.assertEqual(lot in enough, all(set(one) & set(lot) for one in cuts))
                self.assertEqual(lot in barred, all(set(one) & set(lot) for one in least))
            key = "none" if least == ((),) else "never" if least == () else "some"
            self.assertEqual((key == "none", key == "never"), (cuts == (), cuts == ((),)))
            kinds[key] = kinds.get(key, 0) + 1
        self.assertGreater(min(kinds.values()), 5)
        self.assertEqual(len(kinds), 3)

    def test_several_harms(self):
        """A lot is enough for several harms just if it is for each one."""
        for seed in range(40):
            design = fence_design(random.Random(seed), 3)
            for harms in ((), ("early", "used"), ("fooled", "torn"), HARMS):
                least = least_fences(design, harms)
                for lot in all_parts(places(design)):
                    each = all(is_fenced(design, (harm,), lot) for harm in harms)
                    self.assertEqual(any(set(one) <= set(lot) for one in least), each)
            self.assertEqual((least_fences(design, ()), fence_cuts(design, ())), (((),), ()))

    def test_fences_at_all_places(self):
        """As if stores took effect at once, if no kind has `try` or none has `wait`."""
        told = 0
        for seed in range(150):
            design = fence_design(random.Random(seed), 12)
            texts = [text for kind in design.kinds for text in kind.texts]
            if "try" in texts and "wait" in texts:
                continue
            whole, plain = fenced(design, places(design)), design.with_rooms((0, 0))
            for reader in design.readers:
                self.assertEqual([harm for harm in faults_of(whole, reader.name) if harm != "back"],
                                 [harm for harm in faults_of(plain, reader.name) if harm != "back"], str(design))
                told += faults_of(design, reader.name) != faults_of(plain, reader.name)
        self.assertGreater(told, 5)

    def test_harms_that_are_none(self):
        design = self.home()
        works = (is_clear, least_fences, fence_cuts)
        for value in any_values() + [["used"], ("used", "early"), ("used", "used"), ("back",), ("early", None),
                                     ("early", "used", True), "used", (["used"],), ((),)]:
            if value == ():
                continue
            for work in works:
                self.assertEqual(raised(work, design, value).__class__, InvalidHarm, value)
            for given in ((fence_paper, ()), (fence_paper_holds, (), ())):
                self.assertEqual(raised(given[0], design, value, *given[1:]).__class__, InvalidHarm)
            self.assertEqual(raised(is_fenced, design, value, ()).__class__, InvalidHarm)


class FencePapers(unittest.TestCase):
    """Promise 58."""

    def test_just_least_lots_have_papers(self):
        told = 0
        for seed in range(100):
            rng = random.Random(seed)
            design, harms = fence_design(rng, 3), some_harms(rng)
            least = least_fences(design, harms)
            for lot in all_parts(places(design)):
                paper = fence_paper(design, harms, lot)
                self.assertEqual(paper is not None, lot in least)
                if paper is not None:
                    self.check(design, harms, lot, paper)
                    told += len(lot) > 0
        self.assertGreater(told, 5)

    def check(self, design, harms, lot, paper):
        whole = fenced(design, lot)
        names = sorted(reader.name for reader in design.readers)
        self.assertEqual([row[:2] for row in paper[0]], [(name, harm) for name in names for harm in harms])
        for name, harm, proof in paper[0]:
            self.assertEqual(set(proof), set(certificate(whole, name, harm)))
        self.assertEqual(tuple(row[0] for row in paper[1]), lot)
        for place, name, harm, story in paper[1]:
            seen = play(fenced(design, [one for one in lot if one != place]), story)
            word, number = story[-1].split(" ")
            self.assertEqual((word, seen.readers[int(number)][0]), ("next", name))
            self.assertIn(harm, harms)
            self.assertIn((len(story) - 1, harm), seen.met)
        self.assertIs(fence_paper_holds(design, harms, lot, paper), True)

    def some_papers(self):
        for seed in range(80):
            rng = random.Random(seed)
            design, harms = fence_design(rng, 4), some_harms(rng)
            least = [lot for lot in least_fences(design, harms) if lot]
            if least:
                lot = rng.choice(least)
                yield rng, design, harms, lot, fence_paper(design, harms, lot)

    def test_papers_in_another_form(self):
        for rng, design, harms, lot, (proofs, stories) in self.some_papers():
            mixed = []
            for name, harm, proof in proofs:
                row = list(proof) + rng.choices(proof, k=2)
                rng.shuffle(row)
                mixed.append((name, harm, tuple(row)))
            lists = tuple((place, name, harm, list(story)) for place, name, harm, story in stories)
            self.assertIs(fence_paper_holds(design, harms, lot, (tuple(mixed), lists)), True)

    def test_papers_that_are_spoilt(self):
        checked = 0
        for rng, design, harms, lot, (proofs, stories) in self.some_papers():
            checked += 1
            place, name, harm, story = stories[0]
            odd = tuple(one for one in HARMS if one != harm)
            for wrong in ((place, name, harm, ()), (place, name, harm, story[:-1]), (place, name, harm, None),
                          (place, name, harm, story + ("begin " + design.kinds[0].name,)),
                          (place, name, harm, ("step",) + story), (place, name, harm, story[:-1] + ("next 9",)),
                          (place, name, "back", story), (place, "zz", harm, story), (place, None, harm, story),
                          (place, name, None, story), (place, name, (harm,), story), (place, [name], harm, story),
                          (list(place), name, harm, story), ((*place[:2], place[2] + 1), name, harm, story),
                          (place, name, harm), [place, name, harm, story], (place, name, harm, "".join(story)),
                          (place, name, harm, story[:-1] + (7,)), (place, name, odd[0], story[:-1])):
                self.assertIs(fence_paper_holds(design, harms, lot, (proofs, (wrong,) + stories[1:])), False)
            name, harm, proof = proofs[0]
            for wrong in ((name, harm, proof[1:]), (name, harm, list(proof)), (name, harm), (name, harm, ()),
                          ("zz", harm, proof), (name, "back", proof), (name, harm, None), [name, harm, proof],
                          (name, harm, proof + (0,)), (name, harm, (with_bools(proof[0]),) + proof[1:])):
                self.assertIs(fence_paper_holds(design, harms, lot, ((wrong,) + proofs[1:], stories)), False)
            for value in any_values() + [(proofs,), (proofs, stories, ()), [proofs, stories], (list(proofs), stories),
                                         (proofs, list(stories)), (stories, proofs), (proofs[1:], stories),
                                         (proofs + proofs[:1], stories), (proofs, stories[1:]),
                                         (proofs, stories + stories[:1])]:
                self.assertIs(fence_paper_holds(design, harms, lot, value), False)
        self.assertGreater(checked, 5)

    def test_papers_for_another_lot(self):
        others = 0
        for rng, design, harms, lot, paper in self.some_papers():
            for other in all_parts(places(design)):
                if other != lot:
                    others += 1
                    self.assertIs(fence_paper_holds(design, harms, other, paper), False)
            for value in any_values():
                self.assertIs(fence_paper_holds(design, harms, lot, (paper[0], (value,))), False)
                self.assertIs(fence_paper_holds(design, harms, lot, (value, paper[1])), False)
        self.assertGreater(others, 20)

    def test_a_number_is_no_bool(self):
        design = home(["k: take, write p, put s"], ["r once: enter, read s, use s p"], rooms="1 0")
        self.assertEqual(places(design), (("reader", "r", 1), ("reader", "r", 2)))
        self.assertEqual(fence_paper(design, ("torn",), ()), ((("r", "torn", certificate(design, "r", "torn")),), ()))
        self.assertIsNone(fence_paper(design, ("torn",), (("reader", "r", 1),)))
        self.assertEqual(fence_paper(design=design, harms=(), lot=()), ((), ()))
        self.assertIs(fence_paper_holds(design=design, harms=(), lot=(), value=((), ())), True)
        aged = home(["k: take, write p, put s, aside, wait, give 0"], ["r once: enter, read s, use s p, leave"],
                    rooms="1 0")
        lot = (("reader", "r", 1),)
        proofs, stories = fence_paper(aged, ("used",), lot)
        told = (("reader", "r", True), *stories[0][1:])
        self.assertEqual((fence_paper_holds(aged, ("used",), lot, (proofs, stories)),
                          fence_paper_holds(aged, ("used",), lot, (proofs, (told,)))), (True, False))
