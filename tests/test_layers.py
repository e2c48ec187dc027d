import random
import unittest

from tests.making import checks_of, turn_design
from tests.trial import Trial
from tests.values import any_values, home, raised
from unfooled.errors import NoName, NoStep
from unfooled.layers import layer_paper, layers_hold, put_layers_hold, put_paper
from unfooled.stage import play
from unfooled.stands import question_of, stand_moves, starts_of
from unfooled.turnroads import put_road, turn_road
from unfooled.turns import is_in, numbers_told, puts_amid, turns_amid


class Asked:
    """The functions for one check of a design's reader."""

    def __init__(self, design, at, word):
        self.design, self.at, self.is_same = design, at, word == "same"
        self.told = (turns_amid if self.is_same else puts_amid)(design, "r", at)
        self.paper = (layer_paper if self.is_same else put_paper)(design, "r", at)

    def holds(self, told, value):
        return (layers_hold if self.is_same else put_layers_hold)(self.design, "r", self.at, told, value)

    def road(self, number):
        return (turn_road if self.is_same else put_road)(self.design, "r", self.at, number)


def all_asked(seeds):
    for seed in seeds:
        rng = random.Random(seed)
        design = turn_design(rng)
        for at, word in checks_of(design.readers[0]):
            yield rng, Asked(design, at, word)


def with_number(told, number, is_there):
    """What is told, but with or without one number."""
    below, tail, period, rests = told
    start = max(tail, number + 1)
    some = [one for one in range(start) if (is_there if one == number else is_in(told, one))]
    return numbers_told(some, start, period, [x for x in range(period) if is_in(told, start + x)])


def with_lot(lots, at, lot):
    return lots[:at] + (tuple(lot),) + lots[at + 1:]


class Layers(unittest.TestCase):
    """Promises 40, 41 and 43."""

    def test_papers_hold(self):
        sizes = set()
        for rng, asked in all_asked(range(150)):
            lots, back = asked.paper
            self.assertTrue(0 <= back < len(lots))
            self.assertIs(asked.holds(asked.told, asked.paper), True)
            self.assertIs(asked.holds(((), 0, 1, (0,)), asked.paper), True)
            for number in range(len(lots) + 2):
                more = with_number(asked.told, number, True)
                self.assertIs(asked.holds(more, asked.paper), True)
                if is_in(asked.told, number):
                    self.assertIs(asked.holds(with_number(asked.told, number, False), asked.paper), False)
            sizes.add((len(lots), back))
        self.assertGreater(len(sizes), 8)

    def test_all_stands_that_come_about(self):
        for rng, asked in all_asked(range(1000, 1040)):
            lots, back = asked.paper
            trial, by = Trial(asked.design, asked.at), len(lots) - back

            def seen(scene, turns):
                if scene.guests[0].done > trial.first:
                    at = turns if turns < len(lots) else back + (turns - back) % by
                    self.assertIn(trial.stand(scene), lots[at], (str(asked.design), asked.at))
            for _ in range(20):
                trial.walk(rng, 40, seen)

    def test_papers_in_another_form(self):
        for rng, asked in all_asked(range(60)):
            (lots, back), told = asked.paper, asked.told
            mixed = []
            for lot in lots:
                row = list(lot) + rng.choices(lot, k=2) if lot else []
                rng.shuffle(row)
                mixed.append(tuple(row))
            self.assertIs(asked.holds(told, (tuple(mixed), back)), True)
            # Another lot behind the last one: as the one that came next.
            self.assertIs(asked.holds(told, (lots + (lots[back],), back + 1)), True)
            self.assertIs(asked.holds(told, (lots + lots[back:], back)), True)
            if any(with_number(told, number, True) != told for number in range(back)):
                self.assertIs(asked.holds(told, (lots, len(lots))), False)

    def is_paper(self, asked, told, lots, back):
        """Whether lots of stands are closed, and bar what is not told, word by word."""
        question = question_of(asked.design, "r", asked.at, "same" if asked.is_same else "look")
        by = len(lots) - back
        if not set(starts_of(question)) <= set(lots[0]):
            return False
        for at, lot in enumerate(lots):
            after = lots[at + 1] if at + 1 < len(lots) else lots[back]
            for stand in lot:
                if not all(behind in (after if is_turn else lot)
                           for _, behind, is_turn in stand_moves(question, stand)):
                    return False
            if any(question.is_asked(stand) for stand in lot):
                if not all(is_in(told, at + by * many) for many in range(120 if at >= back else 1)):
                    return False
        return True

    def test_just_those_that_are_closed(self):
        """Papers in which lots are mixed, left out, put together, or come round otherwise."""
        found = {True: 0, False: 0}
        for rng, asked in all_asked(range(120)):
            lots, back = asked.paper
            for number in range(8):
                rows = [set(lot) for lot in lots]
                for _ in range(rng.randint(0, 2)):
                    at, other = rng.randrange(len(rows)), rng.randrange(len(rows))
                    change = rng.choice(["swap", "join", "leave", "copy"])
                    if change == "swap":
                        rows[at], rows[other] = rows[other], rows[at]
                    elif change == "join":
                        rows[at] = rows[at] | rows[other]
                    elif change == "copy":
                        rows.insert(at, rows[other])
                    elif len(rows) > 1:
                        del rows[at]
                value = tuple(tuple(rng.sample(sorted(row), len(row))) for row in rows)
                place = rng.choice([min(back, len(value) - 1), rng.randrange(len(value))])
                told = rng.choice([asked.told, ((), 0, 1, (0,)), with_number(asked.told, rng.randint(0, 3), True)])
                holds = self.is_paper(asked, told, value, place)
                self.assertIs(asked.holds(told, (value, place)), holds)
                found[holds] += 1
        self.assertGreater(min(found.values()), 100)

    def test_papers_that_are_spoilt(self):
        for rng, asked in all_asked(range(40)):
            (lots, back), told = asked.paper, asked.told
            at = rng.randrange(len(lots))
            if not lots[at]:
                continue
            lot = list(lots[at])
            number = rng.randrange(len(lot))
            stand = lot[number]
            # All stands come about: each one that is left out is missed.
            self.assertIs(asked.holds(told, (with_lot(lots, at, lot[:number] + lot[number + 1:]), back)), False)
            kind = asked.design.kinds[0].name
            for wrong in (list(stand), stand[:7], stand + (0,), ("zz", *stand[1:]), (kind, 99, *stand[2:]),
                          (kind, True, *stand[2:]), (None, *stand[1:]), ([], *stand[1:]),
                          (*stand[:1], False, *stand[2:]) if stand[1] == 0 else stand[:3],
                          (*stand[:2], not stand[2], *stand[3:]) if stand[4] == "none" else (stand,),
                          (*stand[:2], int(stand[2]), *stand[3:]), (*stand[:3], asked.at + 1, *stand[4:]),
                          (*stand[:3], 0, *stand[4:]), (*stand[:3], str(stand[3]), *stand[4:]),
                          (*stand[:4], "elder", *stand[5:]), (*stand[:4], ["now"], *stand[5:]),
                          (*stand[:5], ("zz",), *stand[6:]), (*stand[:5], "h", *stand[6:]),
                          (*stand[:6], ("gone",), stand[7]), (*stand[:6], (), stand[7]),
                          (*stand[:6], ("aside", 9), stand[7]), (*stand[:6], ("aside", True), stand[7]),
                          (*stand[:6], ("hung", "zz", False), stand[7]), (*stand[:6], ("hung", "s", 1), stand[7]),
                          (*stand[:7], stand[7] + (0,)), (*stand[:7], tuple(9 for _ in stand[7]) or (0,)),
                          (*stand[:6], ("out",) if asked.is_same else ("none",), stand[7])):
                self.assertIs(asked.holds(told, (with_lot(lots, at, lot + [wrong]), back)), False, wrong)
                self.assertIs(asked.holds(told, (with_lot(lots, at, [wrong]), back)), False, wrong)
            for value in any_values():
                self.assertIs(asked.holds(told, value), False)
                self.assertIs(asked.holds(value, asked.paper), False)
                if isinstance(value, bool) or not isinstance(value, int) or not 0 <= value < len(lots):
                    self.assertIs(asked.holds(told, (lots, value)), False)
                self.assertIs(asked.holds(told, (value, back)), False)
                self.assertIs(asked.holds(told, (with_lot(lots, at, lot + [value]), back)), False)
                self.assertIs(asked.holds(told, (lots[:at] + (value,) + lots[at + 1:], back)), False)

    def test_stands_need_not_come_about(self):
        design = home(["k: take, put s, aside, give 0"], ["r once: read s, look s"], slots="s t")
        (lots, back), told = put_paper(design, "r", 1), puts_amid(design, "r", 1)
        odd = [("", 0, False, 1, "none", (), ("hung", "t", flag), ()) for flag in (False, True)]
        odd += [("k", at, False, 1, "none", (), ("hung", "t", flag), ()) for flag in (False, True)
                for at in range(4)]
        self.assertIs(put_layers_hold(design, "r", 1, told, (tuple(lot + tuple(odd) for lot in lots), back)), True)
        self.assertIs(put_layers_hold(design, "r", 1, told, (with_lot(lots, 0, lots[0] + (odd[0],)), back)), False)

    def test_what_is_no_quadruple(self):
        design = home(["k: bump c"], ["r once: num c, num c, same 0 1"], rounds="c -")
        paper = layer_paper(design, "r", 2)
        for told in (((), 0, 1, (0,)),):
            self.assertIs(layers_hold(design, "r", 2, told, paper), True)
        for told in (((0,), 1, 1, (0,)), ((), 0, 2, (0, 1)), [(), 0, 1, (0,)], ([], 0, 1, (0,)), ((), 0, 1, [0]),
                     ((), False, 1, (0,)), ((), 0, True, (0,)), ((), 0, 1, (False,)), ((), 0, 0, (0,)),
                     ((), 0, 1, (1,)), ((), 0, 1, (0, 0)), ((0, 0), 2, 1, (0,)), ((), -1, 1, (0,)),
                     ((), 0, 1, (0,), 0), ((), 1, 1, (0,)), ((), 0, 10 ** 12, (0,)), ((), 0, 1, ())):
            self.assertIs(layers_hold(design, "r", 2, told, paper), False, told)

    def test_multiples(self):
        """In a lot that comes round, all numbers that it stands for are told."""
        design = home(["k: bump c, bump c"], ["r once: num c, even 0, num c, even 2, same 0 2"], rounds="c -")
        lots, back = layer_paper(design, "r", 4)
        self.assertEqual((turns_amid(design, "r", 4), len(lots) - back), (((), 0, 2, (0,)), 2))
        for told, holds in ((((), 0, 2, (0,)), True), (((), 0, 1, (0,)), True), (((), 0, 4, (0,)), False),
                            (((0, 2), 3, 1, ()), False), (((0, 2), 4, 2, (0,)), False), (((0, 1), 2, 2, (0,)), True),
                            (((0, 1, 2, 4), 6, 2, (0,)), False), (((0, 2, 3), 4, 2, (0,)), True), (((0, 2, 3, 4), 5, 2, (1,)), False),
                            (((), 0, 3, (0, 1)), False), (((), 0, 6, (0, 2, 3, 4)), True)):
            self.assertIs(layers_hold(design, "r", 4, told, (lots, back)), holds, told)

    def test_errors(self):
        design = home(["k: bump c"], ["r once: num c, num c, same 0 1, read s, look s"], rounds="c -")
        for value in any_values():
            for work, right, more in ((layer_paper, 2, ()), (put_paper, 4, ()), (layers_hold, 2, (value, value)),
                                      (put_layers_hold, 4, (value, value)), (turn_road, 2, (1,)),
                                      (put_road, 4, (1,))):
                if value != "r":
                    error = raised(work, design, value, value, *more)
                    self.assertEqual(error.__class__, NoName)
                    self.assertIs(error.name, value)
                error = raised(work, design, "r", value, *more)
                if not (isinstance(value, int) and value is not True and value == right):
                    self.assertEqual(error.__class__, NoStep)
                    self.assertIs(error.at, value)
        told, paper = turns_amid(design, "r", 2), layer_paper(at=2, name="r", design=design)
        self.assertIs(layers_hold(value=paper, told=told, at=2, name="r", design=design), True)
        told, paper = puts_amid(design, "r", 4), put_paper(at=4, name="r", design=design)
        self.assertIs(put_layers_hold(value=paper, told=told, at=4, name="r", design=design), True)


class Roads(unittest.TestCase):
    """Promise 42."""

    def test_roads(self):
        played = 0
        for rng, asked in all_asked(range(200)):
            reader = asked.design.readers[0]
            for number in (0, 1, 2, 3, 4, 7, 12):
                road = asked.road(number)
                self.assertEqual(road is not None, is_in(asked.told, number))
                if road is None or any(text.startswith("look") for text in reader.texts[:asked.at]):
                    continue
                self.assertIsInstance(road, tuple)
                self.assertEqual((road[0], road[-1]), ("start r", "next 0"))
                self.check(asked, road, number)
                played += 1
        self.assertGreater(played, 300)

    def check(self, asked, road, number):
        trial = Trial(asked.design, asked.at)
        scene, turns = trial.begin(), 0
        seen = play(asked.design, road[:-1])
        self.assertEqual((seen.readers[0][:2], seen.runs), (("r", asked.at), ()))
        play(asked.design, road)
        for text in road[1:-1]:
            self.assertIn(text, trial.events(scene))
            turns = trial.do(scene, text, turns)
        self.assertEqual(turns, number)
        self.assertTrue(trial.comes_now(scene))

    def test_errors(self):
        design = home(["k: bump c"], ["r once: num c, num c, same 0 1"], rounds="c -")
        self.assertEqual(turn_road(number=1, at=2, name="r", design=design)[-1], "next 0")
        self.assertIsNone(put_road(number=2, at=1, name="n", design=design.with_reader(
            home(["k: fence"], ["n once: read s, look s"]).readers[0])))
