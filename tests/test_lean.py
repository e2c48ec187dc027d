import random
import unittest

from tests.making import all_parts, fence_design, least_of, near_design, random_design
from tests.values import any_values, home, raised
from unfooled.designs import Design
from unfooled.errors import InvalidHarm, InvalidReader, NoName, NoStep
from unfooled.faults import faults
from unfooled.lean import droppable, dropped, kept_off, kept_off_holds, lean_lots, needless
from unfooled.stage import play

HARMS = ("early", "fooled", "torn", "used")


def some_design(rng):
    design = near_design(rng) if rng.random() < 0.7 else random_design(rng, reader_steps=6)
    return design


def asked(seeds, most=5):
    """Designs, a reader's name and harms, with at most so many steps that can be dropped."""
    for seed in seeds:
        rng = random.Random(seed)
        design = some_design(rng)
        name = rng.choice(design.readers).name
        if len(droppable(design, name)) <= most:
            yield rng, design, name, tuple(sorted(rng.sample(HARMS, rng.choice([1, 1, 2, 3]))))


def texts_without(texts, numbers):
    """The texts without these steps, or None if a check stays whose step does not."""
    where, told = {}, []
    for at in range(len(texts)):
        if at not in numbers:
            where[at] = len(where)
    for at in where:
        words = texts[at].split(" ")
        if words[0] in ("same", "even"):
            if any(int(word) not in where for word in words[1:]):
                return None
            words[1:] = [str(where[int(word)]) for word in words[1:]]
        told.append(" ".join(words))
    return told or None


def is_clear(design, harms):
    return not set(harms) & set(faults(design))


class Lean(unittest.TestCase):
    """Promises 59 and 60."""

    def whole(self):
        return home(["swap: take, write p, put s, aside, fence, wait, give 0"],
                    ["see once: enter, fence, read s, use s p, leave"], rooms="1 1")

    def test_the_example(self):
        whole = self.whole()
        self.assertEqual((droppable(whole, "see"), needless(whole, "see", ("used",)),
                          lean_lots(whole, "see", ("used",))), ((0, 1, 4), (4,), ((0, 1),)))
        self.assertEqual((droppable(name="see", design=whole), needless(harms=(), name="see", design=whole),
                          lean_lots(harms=(), design=whole, name="see")), ((0, 1, 4), (0, 1, 4), ((),)))

    def test_dropped(self):
        wrong = 0
        for seed in range(400):
            rng = random.Random(seed)
            design = random_design(rng, reader_steps=8)
            reader = rng.choice(design.readers)
            numbers = droppable(design, reader.name)
            self.assertEqual(numbers, tuple(at for at, text in enumerate(reader.texts)
                                            if text.split(" ")[0] not in ("read", "use")))
            lot = rng.sample(numbers, rng.randint(0, len(numbers)))
            given, texts = list(lot), texts_without(reader.texts, lot)
            if texts is None:
                error = raised(dropped, design, reader.name, lot)
                self.assertEqual((error.__class__, error.word), (InvalidReader, "texts"))
                wrong += 1
                continue
            told = dropped(design, reader.name, rng.choice([lot, tuple(lot)]))
            mine = str(design).replace(str(reader), str(reader).split(": ")[0] + ": " + ", ".join(texts))
            self.assertEqual((str(told), told.__class__, lot), (mine, Design, given))
        self.assertGreater(wrong, 20)

    def test_a_check_goes_with_its_steps(self):
        design = home(["k: bump c"], ["r again: num c, num c, same 0 1, num c, same 1 3, even 0", "n once: enter"],
                      rounds="c 4")
        self.assertEqual(str(dropped(design, "r", [0, 5, 2]).reader("r")), "reader r again: num c, num c, same 0 1")
        for numbers in ((0,), (1, 2), (0, 1, 2, 3, 4, 5), (3,)):
            self.assertEqual(raised(dropped, design, "r", numbers).word, "texts")
        self.assertEqual(raised(dropped, design, "n", (0,)).word, "texts")

    def test_against_all_parts(self):
        found = {"lean": 0, "needless": 0, "not monotone": 0}
        for rng, design, name, harms in asked(range(170), 4):
            numbers, enough = droppable(design, name), []
            for lot in all_parts(numbers):
                try:
                    rest = dropped(design, name, [at for at in numbers if at not in lot])
                except InvalidReader:
                    continue
                if is_clear(rest, harms):
                    enough.append(lot)
            self.assertEqual(lean_lots(design, name, harms), least_of(enough), (str(design), harms))
            alone = tuple(at for at in numbers if tuple(one for one in numbers if one != at) in enough)
            told = needless(design, name, harms)
            self.assertEqual(told, alone if numbers in enough else ())
            found["lean"] += least_of(enough) not in ((), ((),))
            found["needless"] += told not in ((), numbers)
            found["not monotone"] += any(set(one) <= set(lot) and lot not in enough
                                         for one in enough for lot in all_parts(numbers))
        self.assertGreater(min(found.values()), 3, found)

    def test_others_count(self):
        """A step that another reader needs is not needless."""
        design = home(["k: take, write p, put s, aside, wait, give 0", "l: over s p"],
                      ["r once: enter, read s, use s p, leave", "n once: read s, use s p, enter, leave"])
        self.assertEqual((needless(design, "r", ("used",)), lean_lots(design, "r", ("used",))), ((), ()))
        aged = home(["k: take, put s, aside, try, give 2"],
                    ["r once: enter, read s, use s p, leave", "n once: leave, enter"])
        self.assertEqual(needless(aged, "n", ("used",)), (0, 1))
        self.assertEqual(lean_lots(aged, "r", ("used",)), ((0,),))

    def test_errors(self):
        design = self.whole()
        for value in any_values() + [["used"], ("used", "early"), ("back",), "used", (["used"],)]:
            for work in (needless, lean_lots):
                if value != ():
                    self.assertEqual(raised(work, design, value, value).__class__, InvalidHarm)
            for given in ((kept_off,), (kept_off_holds, ())):
                if value != ():
                    error = raised(given[0], design, value, value, value, *given[1:])
                    self.assertEqual(error.__class__, InvalidHarm)
            if value != "see":
                errors = [raised(droppable, design, value), raised(dropped, design, value, ()),
                          raised(needless, design, value, ()), raised(lean_lots, design, value, ("used",)),
                          raised(kept_off, design, value, value, ()),
                          raised(kept_off_holds, design, value, value, (), value)]
                for error in errors:
                    self.assertEqual(error.__class__, NoName, value)
                    self.assertIs(error.name, value)
            if isinstance(value, bool) or value not in (0, 1, 4):
                for error in (raised(kept_off, design, "see", value, ("used",)),
                              raised(kept_off_holds, design, "see", value, ("used",), value)):
                    self.assertEqual(error.__class__, NoStep, value)
                    self.assertIs(error.at, value)
        for number in (2, 3, 5):
            self.assertEqual(raised(kept_off, design, "see", number, ()).at, number)


class KeptOff(unittest.TestCase):
    """Promise 61."""

    def test_the_example(self):
        whole = Lean().whole()
        self.assertEqual(kept_off(whole, "see", 1, ("used",))[:2], ("see", "used"))
        self.assertIsNone(kept_off(whole, "see", 4, ("used",)))
        self.assertIs(kept_off_holds(design=whole, name="see", number=1, harms=("used",),
                                     value=kept_off(number=1, harms=("used",), design=whole, name="see")), True)

    def test_what_each_step_keeps_off(self):
        told = 0
        for rng, design, name, harms in asked(range(500), 6):
            for number in droppable(design, name):
                try:
                    rest = dropped(design, name, (number,))
                except InvalidReader:
                    rest = None
                found = kept_off(design, name, number, harms)
                is_due = rest is not None and is_clear(design, harms) and not is_clear(rest, harms)
                self.assertEqual(found is not None, is_due, (str(design), number, harms))
                if found is not None:
                    told += 1
                    self.check(design, name, number, harms, rest, found)
        self.assertGreater(told, 15)

    def check(self, design, name, number, harms, rest, value):
        def holds(given):
            return kept_off_holds(design, name, number, harms, given)
        who, harm, story = value
        self.assertIsInstance(value, tuple)
        self.assertIn(harm, harms)
        seen = play(rest, story)
        self.assertIn((len(story) - 1, harm), seen.met)
        word, one = story[-1].split(" ")
        self.assertEqual((word, seen.readers[int(one)][0]), ("next", who))
        self.assertIs(holds(value), True)
        self.assertIs(holds((who, harm, list(story))), True)
        self.assertIs(holds((who, harm, ("start " + who,) + tuple(moved(text) for text in story))), True)
        for wrong in any_values() + [list(value), value[:2], value + (0,), (who, harm, story[:-1]), (who, harm, ()),
                                     ("zz", harm, story), (who, "back", story), (who, None, story), (0, harm, story),
                                     (who, harm, story + ("flush",)), (who, harm, story + ("start " + who,)),
                                     (who, harm, (0,) + story), (who, harm, ("next 0",) + story), (who, harm, None),
                                     (who, harm, " ".join(story)), ([who], harm, story), (who, [harm], story)]:
            self.assertIs(holds(wrong), False, wrong)

    def test_only_of_a_clear_design(self):
        """A story of the design without the step is none of what the step keeps off, if the harm
        happens with it, too."""
        design = home(["k: take, put s, aside, give 0"], ["r once: fence, read s, use s p"])
        rest = home(["k: take, put s, aside, give 0"], ["r once: read s, use s p"])
        story = ("start r", "next 0", "begin k", "step", "step", "step", "step", "next 0")
        self.assertIn((7, "used"), play(rest, story).met)
        self.assertIsNone(kept_off(design, "r", 0, ("used",)))
        self.assertIs(kept_off_holds(design, "r", 0, ("used",), ("r", "used", story)), False)


def moved(text):
    """The same event, if one reader more came first."""
    words = text.split(" ")
    return f"{words[0]} {int(words[1]) + 1}" if words[0] in ("next", "drain") else text
