import random
import unittest

from tests.making import random_design
from tests.values import any_values, home, raised
from unfooled.alone import Still, after, rows_apart
from unfooled.errors import NoName
from unfooled.stage import play

WORDS = ("hung", "lives", "contents", "stamps", "counts", "age", "out", "pile", "back")


def event_by_event(design, names):
    """The same updates on the stage; a take takes the least cell that is back."""
    events = []
    for name in names:
        events.append("begin " + name)
        for text in design.kind(name).texts:
            back = play(design, events).back
            reuses = text == "take" and back and design.reuse == "any"
            events.append(f"step {back[0]}" if reuses else "step")
    return play(design, events)


class Alone(unittest.TestCase):
    """Promise 9."""

    def test_the_example(self):
        plain = home(["swap: take, write p, put s, aside, give 0"],
                     ["r once: read s, use s p, look s"])
        here = after(plain, ["swap", "swap"])
        self.assertIsInstance(here, Still)
        self.assertEqual((here.hung, here.lives, here.contents, here.back),
                         ((0,), (2,), (((2, 2),),), (1,)))
        self.assertEqual(rows_apart(plain, ["swap"], ["swap", "swap"]), "hung")

    def test_against_the_stage(self):
        for seed in range(150):
            rng = random.Random(seed)
            design = random_design(rng).with_rooms((rng.choice([0, 1]), 0))
            names = [rng.choice(design.kinds).name for _ in range(rng.randint(0, 8))]
            here, there = after(design, tuple(names)), event_by_event(design, names)
            for word in WORDS:
                self.assertEqual(getattr(here, word), getattr(there, word))
            late = after(design.with_rooms((0, 1)), names)
            self.assertEqual(vars(late), vars(here))

    def test_the_least_cell_that_is_back(self):
        design = home(["two: take, put s, take, put s, aside, give 0", "k: take, put s"],
                      ["r once: read s"])
        self.assertEqual(after(design, ["two"]).back, (0, 1))
        self.assertEqual((after(design, ["two", "k"]).hung, after(design, ["two", "k"]).back),
                         ((0,), (1,)))
        self.assertEqual(after(design.with_reuse("never"), ["two", "k"]).hung, (3,))

    def test_move_and_try_increase_the_age(self):
        design = home(["k: move, try, wait, fence"], ["r once: enter"])
        self.assertEqual(after(design, ["k", "k"]).age, 4)

    def test_names_that_are_none(self):
        design = home(["k: move"], ["r once: enter"])
        self.assertEqual(after(names=[], design=design).age, 0)
        for value in any_values():
            if value != "k":
                for names in (["k", value, 5], (value, "x")):
                    error = raised(after, design, names)
                    self.assertEqual(error.__class__, NoName)
                    self.assertIs(error.name, value)
                self.assertIs(raised(rows_apart, design, ["k", value], ["x"]).name, value)
                self.assertIs(raised(rows_apart, design, ["k"], [value, "x"]).name, value)

    def test_the_words(self):
        free = {"slots": "s t", "parts": "p q", "rounds": "c -", "wide": "s 2"}
        kinds = ["put: take, put s", "w: over s p", "b: bump c", "m: move", "a: aside",
                 "g: aside, give 0", "n: fence", "f: take, put s, take, put s",
                 "back: take, put s, aside, give 0"]
        design = home(kinds, ["r once: enter"], **free)
        for one, other, word in ((["put"], [], "hung"), (["w"], ["n"], "contents"),
                                 (["b"], [], "counts"), (["m"], [], "age"), ([], ["n"], None),
                                 (["put", "a"], ["put", "n"], "out"),
                                 (["put", "a"], ["put", "g"], "pile"),
                                 (["w", "b"], ["b", "w"], "contents"),
                                 (["b", "m"], ["m", "b"], None)):
            self.assertEqual(rows_apart(design, one, other), word)
            self.assertEqual(rows_apart(design, others=one, names=other), word)
        # Cells that come back: the same cell in another life.
        self.assertEqual(rows_apart(design, ["back", "back"], ["n"]), "lives")
        # Which cells are back is told last: the pile of both is empty.
        self.assertEqual(rows_apart(home(["x: take, put s, aside, give 0", "y: take, put s, aside"],
                                         ["r once: enter"]), ["x"], ["y"]), "pile")
        stamp = home(["k: take, put t, take, put s, take, put t",
                      "l: take, put s, take, put s, take, put t"],
                     ["r once: enter"], slots="s t", wide="t 2")
        self.assertEqual(rows_apart(stamp, ["k"], ["l"]), "stamps")
        self.assertIsNone(rows_apart(stamp.with_wide(()), ["k"], ["l"]))
