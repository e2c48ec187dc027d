import itertools
import random
import unittest

from tests.making import random_kind, swapping_kind
from tests.values import any_values, home, raised
from unfooled.designs import Design
from unfooled.errors import NoName
from unfooled.heaps import (empty_pile, growing, growth, heap, heap_holds, heap_paper, heap_road, pile_after,
                            piles_within, soonest_back, soonest_back_road)
from unfooled.readers import Reader
from unfooled.scene import Scene, event_words
from unfooled.stage import play

WORDS = ["put", "aside", "aside", "give", "give", "take", "move", "try", "wait", "write", "givefree"]
AGES = home(["swap: take, write p, put s, aside, try, give 2"], ["r once: enter, read s, use s p, leave"])


def heap_design(rng, most=6, kinds=3):
    slots = ["s", "t"][:rng.choice([1, 2])]
    rows = [rng.choice([random_kind, swapping_kind])(rng, name, slots, ["p"], [], WORDS, most)
            for name in "klm"[:rng.randint(1, kinds)]]
    return Design(slots, ["p"], rows, [Reader("r", ["read s"])], rooms=(0, rng.choice([0, 0, 1])),
                  reuse=rng.choice(["any", "any", "any", "never"]))


def oldest(design):
    return max([0] + [int(text.split(" ")[1]) for kind in design.kinds for text in kind.texts
                      if text.startswith("give")])


def pile_of(design, scene):
    """The pile by its definition, on the stage."""
    house = scene.house
    aside = [0] * (oldest(design) + 1)
    for _, age in house.pile:
        aside[min(house.age - age, oldest(design))] += 1
    return (0 if house.hand is None else 1, len(house.out), tuple(aside))


def piles_played(design, names):
    """For each update the piles behind its steps, on the stage."""
    scene, found = Scene(design.with_rooms((0, 0))), []
    for name in names:
        scene.do(event_words(design, "begin " + name))
        row = []
        for _ in design.kind(name).texts:
            scene.do(["step"])
            row.append(pile_of(design, scene))
        found.append(row)
    return found


def heap_of(pile):
    return pile[0] + pile[1] + sum(pile[2])


def roads(design, many):
    names = [kind.name for kind in design.kinds]
    return [road for number in range(1, many + 1) for road in itertools.product(names, repeat=number)]


class Heaps(unittest.TestCase):
    """Promises 46 to 49."""

    def test_the_example(self):
        self.assertEqual(piles_within(AGES, (0, 0, (0, 1, 0)), "swap"),
                         ((1, 0, (0, 1, 0)), (1, 0, (0, 1, 0)), (0, 1, (0, 1, 0)), (0, 0, (1, 1, 0)),
                          (0, 0, (0, 1, 1)), (0, 0, (0, 1, 0))))
        self.assertEqual((heap(AGES), heap_road(AGES, 1), heap_road(AGES, 2), soonest_back(AGES, "s")),
                         (2, ("swap", "swap"), None, 3))

    def test_other_piles(self):
        design = home(["k: take, put s, put s, take", "l: give 1, move, bump c, wait, over s p, fence",
                       "m: aside, try, give 2 free"][1:], ["r once: read s"], rounds="c -")
        self.assertEqual(piles_within(design, (1, 4, (3, 2, 5)), "l"),
                         ((1, 4, (3, 0, 0)), (1, 4, (0, 3, 0)), (1, 4, (0, 3, 0)), (1, 4, (0, 3, 0)),
                          (1, 4, (0, 3, 0)), (1, 4, (0, 3, 0))))
        self.assertEqual(piles_within(design, (1, 4, (3, 2, 5)), "m"),
                         ((1, 0, (7, 2, 5)), (1, 0, (0, 7, 7)), (1, 0, (0, 7, 0))))
        hands = home(["k: take, put s"], ["r once: read s"])
        self.assertEqual(piles_within(hands, (1, 2, (3,)), "k"), ((1, 2, (3,)), (0, 3, (3,))))
        self.assertEqual(pile_after(hands.with_kind(home(["k: move, give 0"], ["r once: read s"]).kinds[0]),
                                    (1, 2, (3,)), "k"), (1, 2, (0,)))
        self.assertEqual((empty_pile(AGES), empty_pile(hands)), ((0, 0, (0, 0, 0)), (0, 0, (0,))))

    def test_piles_step_by_step(self):
        for seed in range(60):
            rng = random.Random(seed)
            design = heap_design(rng)
            names = [rng.choice(design.kinds).name for _ in range(8)]
            pile = empty_pile(design)
            for name, row in zip(names, piles_played(design, names)):
                self.assertEqual(piles_within(design, pile, name), tuple(row))
                pile = pile_after(design, pile, name)
                self.assertEqual(pile, row[-1])

    def test_heaps_by_trying(self):
        found = set()
        for seed in range(250):
            rng = random.Random(seed)
            design = heap_design(rng)
            told = {}
            for road in roads(design, 5 if len(design.kinds) < 3 else 4):
                most = max(heap_of(pile) for pile in piles_played(design, road)[-1])
                told.setdefault(most, road)
            names = growing(design)
            greatest = heap(design)
            self.assertEqual(names, tuple(sorted(kind.name for kind in design.kinds
                                                 if growth(design, kind.name) > 0)))
            self.assertEqual(greatest is None, names != ())
            for kind in design.kinds:
                rows = piles_played(design, [kind.name] * 16)
                more = [heap_of(rows[at + 1][-1]) - heap_of(rows[at][-1]) for at in (10, 12, 14)]
                self.assertEqual(more, [growth(design, kind.name)] * 3)
            for most in range(10):
                road = heap_road(design, most)
                self.assertEqual(road is None, greatest is not None and greatest <= most)
                self.check_paper(design, most, road)
                shortest = [len(one) for other, one in told.items() if other > most]
                if road is None:
                    self.assertEqual(shortest, [])
                    continue
                self.assertIsInstance(road, tuple)
                self.assertGreater(max(heap_of(pile) for pile in piles_played(design, road)[-1]), most)
                if shortest:
                    self.assertEqual(len(road), min(shortest))
                else:
                    self.assertGreater(len(road), 4 if len(design.kinds) > 2 else 5)
            found.add(greatest)
        self.assertLessEqual({None, 0, 1, 2, 3}, found)

    def check_paper(self, design, most, road):
        paper = heap_paper(design, most)
        self.assertEqual(paper is None, road is not None)
        if paper is None:
            return
        self.assertIs(heap_holds(design, most, paper), True)
        self.assertIs(heap_holds(design, most + 1, paper), True)
        self.assertIs(heap_holds(design, most, paper[::-1] + paper), True)
        for at in range(len(paper)):
            self.assertIs(heap_holds(design, most, paper[:at] + paper[at + 1:]), False)
        self.assertIs(heap_holds(design, heap(design) - 1, paper), False)

    def test_papers_that_are_spoilt(self):
        paper = heap_paper(AGES, 2)
        self.assertEqual(sorted(paper), [(0, 0, (0, 0, 0)), (0, 0, (0, 1, 0))])
        # Piles need not come about; their hands may be full.
        self.assertIs(heap_holds(AGES, 2, paper + ((1, 0, (0, 0, 0)),)), True)
        self.assertIs(heap_holds(AGES, 3, paper + ((0, 0, (0, 1, 1)), (1, 0, (0, 0, 1)))), True)
        self.assertIs(heap_holds(AGES, 2, paper + ((0, 0, (0, 1, 1)),)), False)
        self.assertIs(heap_holds(AGES, 9, paper + ((0, 1, (0, 0, 0)),)), False)
        for wrong in ((2, 0, (0, 0, 0)), (-1, 0, (0, 0, 0)), (True, 0, (0, 0, 0)), (0, False, (0, 0, 0)),
                      (0, 0, (0, True, 0)), (0, 0, (0, -1, 0)), (0, 0, (0, 0)), (0, 0, [0, 0, 0]), (0, 0, 0),
                      [0, 0, (0, 0, 0)], (0, 0, (0, 0, 0), 0), (0, 0, (0, 0, 0, 0)), (0, None, (0, 0, 0))):
            self.assertIs(heap_holds(AGES, 9, paper + (wrong,)), False, wrong)
        self.assertIs(heap_holds(AGES, 2, list(paper)), False)
        for value in any_values():
            self.assertIs(heap_holds(AGES, 9, value), False)
            self.assertIs(heap_holds(AGES, 9, paper + (value,)), False)
        self.assertIs(heap_holds(value=paper, most=2, design=AGES), True)

    def test_errors(self):
        for value in any_values():
            if value != "swap":
                for error in (raised(piles_within, AGES, (0, 0, (0, 0, 0)), value),
                              raised(pile_after, AGES, (0, 0, (0, 0, 0)), value), raised(growth, AGES, value)):
                    self.assertEqual(error.__class__, NoName)
                    self.assertIs(error.name, value)
            if value != "s":
                for error in (raised(soonest_back, AGES, value), raised(soonest_back_road, AGES, value)):
                    self.assertEqual(error.__class__, NoName)
                    self.assertIs(error.name, value)
        self.assertEqual((growth(name="swap", design=AGES), growing(design=AGES), heap(design=AGES)), (0, (), 2))
        self.assertEqual((heap_road(most=0, design=AGES), heap_paper(most=1, design=AGES)), (("swap",), None))
        self.assertEqual(pile_after(name="swap", pile=(0, 0, (0, 0, 0)), design=AGES), (0, 0, (0, 1, 0)))


def back_by_trying(design, slot, many):
    """The least number of updates of so many by which a cell comes back, by trying all."""
    found = []
    for road in roads(design, many):
        rows = [Scene(design)]
        for at, name in enumerate(road):
            rows = [behind for scene in rows for behind in whole(design, scene, name, slot, at, found, len(road))]
    return min(found, default=None)


def copied(scene, design, events):
    made = Scene(design)
    made.left, made.events = {}, []
    for text, at in events:
        do(made, design, text, at, None, None)
    return made


def do(scene, design, text, at, slot, found):
    house = scene.house
    step = house.script.texts[house.done].split(" ") if text.startswith("step") else [""]
    scene.events.append((text, at))
    if step[0] == "put":
        out = house.hung[step[1]]
        scene.left.setdefault((step[1], house.hand), None)
        if step[1] == slot and scene.left.get((slot, house.hand)) is not None:
            found.append(at - scene.left[slot, house.hand] + 1)
        scene.left[step[1], out] = at
    scene.do(event_words(design, text))


def whole(design, scene, name, slot, at, found, many):
    """All scenes behind one more update."""
    if not hasattr(scene, "events"):
        scene.left, scene.events = {}, []
    do(scene, design, "begin " + name, at, slot, found)
    rows = [scene]
    for text in design.kind(name).texts:
        after = []
        for one in rows:
            events = list(one.events)
            if text == "take" and design.reuse == "any":
                for cell in one.house.back:
                    other = copied(one, design, events)
                    do(other, design, f"step {cell}", at, slot, found)
                    after.append(other)
            do(one, design, "step", at, slot, found)
            after.append(one)
        rows = after
    return rows


class Backs(unittest.TestCase):
    """Promise 50."""

    def test_backs_that_are_known(self):
        for kinds, told in (
                (["k: take, put s, aside, give 0"], 2), (["k: take, put s, aside, give 0, take, put s"], 1),
                (["k: take, put s"], None), (["k: take, put s, aside, give 1"], None),
                (["k: take, put s, take, put s, aside, give 0, take, put s"], 1),
                (["k: take, put s, aside, move, give 1 free"], 2), (["k: give 0, take, put s, aside"], 2),
                (["k: take, put s, aside", "l: give 0"], 3),
                (["k: take, put s", "l: aside, give 0, take, put t"], 3),
                (["k: take, put s, aside, try, give 4"], 5), (["k: aside, give 0, take, put t"], None)):
            design = home(kinds, ["r once: read s"], slots="s t")
            self.assertEqual(soonest_back(design, "s"), told, kinds)
            self.assertEqual(soonest_back(design.with_rooms((1, 1)), "s"), told)
            self.assertIsNone(soonest_back(design.with_reuse("never"), "s"))
            self.assertIsNone(soonest_back_road(slot="s", design=design.with_reuse("never")))

    def test_by_trying(self):
        found = set()
        for seed in range(90):
            design = heap_design(random.Random(seed), most=5, kinds=2)
            for slot in design.slots:
                told = soonest_back(design, slot)
                road = soonest_back_road(design, slot)
                self.assertEqual(told, None if road is None else len(road))
                bare = design.with_rooms((0, 0))
                least = back_by_trying(bare, slot, 3)
                self.assertEqual(least, told if told is None or told < 4 else None, (str(design), slot))
                if road is not None:
                    self.assertIn(len(road), self.backs_along(bare, slot, road))
                found.add(told)
        self.assertLessEqual({None, 2, 3}, found)

    def backs_along(self, design, slot, road):
        found, rows = [], [Scene(design)]
        for at, name in enumerate(road):
            rows = [one for scene in rows for one in whole(design, scene, name, slot, at, found, len(road))]
        return found

    def test_a_cell_comes_back_on_the_stage(self):
        design = AGES.with_reader(Reader("r", ["read s"]))
        whole_one = ["begin swap"] + ["step"] * 6
        again = ["begin swap", "step 0"] + ["step"] * 5
        self.assertEqual(play(design, whole_one * 2 + again).hung, (0,))
        self.assertEqual(soonest_back_road(design, "s"), ("swap", "swap", "swap"))
