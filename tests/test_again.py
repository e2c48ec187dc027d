import random
import unittest
from fractions import Fraction
from math import gcd

from tests.making import fence_design, near_design, random_design, random_reader
from tests.test_papers import come_about, with_bools, with_numbers
from tests.values import any_values, home, raised
from unfooled.again import (gets_on, grade, height_paper, heights_hold, most_rejected, rejected_road,
                            rejections, ring_road)
from unfooled.designs import Design
from unfooled.errors import NoName
from unfooled.kinds import Kind
from unfooled.scene import Scene, event_words
from unfooled.watched import led_on

SEQ = "swap: take, write p, bump c, put s, bump c"
ALL = (grade, gets_on, most_rejected, rejected_road, rejections, height_paper, heights_hold, ring_road)


def seq_home(**lines):
    return home([SEQ], ["seq again: num c, read s, use s p, num c, same 0 3",
                        "even again: num c, even 0, read s, use s p"], rounds="c -", reuse="never", **lines)


def some_design(rng):
    pick = rng.random()
    if pick < 0.2:
        return fence_design(rng, 9)
    if pick < 0.4:
        return near_design(rng)
    return random_design(rng, most_steps=5, reader_steps=6, flavour=rng.choice([None, "numbers", "mixed"]))


def turning_design(rng):
    """Updates that turn counters, and readers that count."""
    kinds = [Kind(name, [rng.choice(["bump c", "bump c", "bump d", "fence"]) for _ in range(rng.randint(1, 4))])
             for name in "kl"[:rng.choice([1, 1, 2])]]
    reader = random_reader(rng, "r", ["s"], ["p"], ["c", "d"], ["num", "num", "same", "fence"], 7)
    return Design(["s"], ["p"], kinds, [reader], [("c", rng.choice([None, 2, 3, 4])), ("d", rng.choice([None, 2]))])


class Moves:
    """All moves of a reader whose word is taken to be again, by led_on alone."""

    def __init__(self, design, name):
        design = design.with_reader(design.reader(name).with_word("again"))
        self.standings = come_about(design, name)
        number = {standing: at for at, standing in enumerate(self.standings)}
        self.rows, self.ends = [], []
        for standing in self.standings:
            row = [(number[behind], int("again" in words), int("over" in words), label[0] == "own")
                   for label, behind, _, words in led_on(design, name, standing) if behind is not None]
            self.rows.append(row)
            self.ends.append(any("accepted" in move[3] for move in led_on(design, name, standing)))

    def behind(self, first, is_told):
        """All standings that are come to from one by moves of which a function tells."""
        found, rows = {first}, [first]
        for node in rows:
            for move in self.rows[node]:
                if is_told(move) and move[0] not in found:
                    found.add(move[0])
                    rows.append(move[0])
        return found

    def comes_round(self, is_told):
        """Whether a rejection lies on a ring of moves of which a function tells."""
        return any(move[1] and node in self.behind(move[0], is_told)
                   for node, row in enumerate(self.rows) for move in row if is_told(move))

    def grade(self):
        if self.comes_round(lambda move: not move[2]):
            return "blocked"
        return "free" if self.comes_round(lambda move: True) else "bounded"

    def gets_on(self):
        """Whether own moves alone always come to an end of the run."""
        good, is_more = set(), True
        while is_more:
            more = {node for node, row in enumerate(self.rows) if node not in good
                    and (self.ends[node] or any(own for _, _, _, own in row))
                    and all(behind in good for behind, _, _, own in row if own)}
            good, is_more = good | more, bool(more)
        return len(good) == len(self.rows)

    def most(self, updates):
        """The greatest numbers of rejections amid at most 0, 1, .. updates."""
        best = [[-1] * len(self.rows) for _ in range(updates + 1)]
        best[0][0] = 0
        for level in range(updates + 1):
            rows = [node for node in range(len(self.rows)) if best[level][node] >= 0]
            for node in rows:
                for behind, rejected, over, _ in self.rows[node]:
                    many = best[level][node] + rejected
                    if level + over <= updates and best[level + over][behind] < many:
                        best[level + over][behind] = many
                        if not over:
                            rows.append(behind)
        return [max(max(best[level]) for level in range(last + 1)) for last in range(updates + 1)]

    def has_heights(self, pair):
        """Whether no ring asks for more than the pair (naively)."""
        heights = [0] * len(self.rows)
        for _ in range(len(self.rows) + 1):
            is_changed = False
            for node, row in enumerate(self.rows):
                for behind, rejected, over, _ in row:
                    height = heights[node] + pair[1] * rejected - pair[0] * over
                    if heights[behind] < height:
                        heights[behind], is_changed = height, True
            if not is_changed:
                return True
        return False


def watched(scene):
    """What a rejection and an end of a reader's run show: try's steps, runs that are over."""
    return scene.guests[0].done, len([run for run in scene.runs if run[0] == 0])


class Watch:
    """Events on the stage, with the rejections of reader 0 and the updates that are over."""

    def __init__(self, design, name):
        self.design = design.with_reader(design.reader(name).with_word("again"))
        self.scene = Scene(self.design)
        self.rejected = self.own = 0
        self.has_got_on = False

    def may(self, text):
        return self.scene.may(event_words(self.design, text))

    def do(self, text):
        assert self.may(text), text
        done, runs = watched(self.scene) if self.scene.guests else (0, 0)
        self.scene.do(event_words(self.design, text))
        if text == "next 0":
            self.own += 1
            self.has_got_on = self.has_got_on or watched(self.scene)[1] > runs
            if self.scene.guests[0].done != done + 1 and not self.has_got_on:
                self.rejected += 1

    def over(self):
        return self.scene.house.number_over()


def counts_at(design, name, events, spots):
    """The pairs (rejections, updates over) behind so many events."""
    watch, found = Watch(design, name), []
    for at in range(len(events) + 1):
        if at in spots:
            found.append((watch.rejected, watch.over()))
        if at < len(events):
            watch.do(events[at])
    assert not watch.has_got_on and watch.scene.guests[0].script.name == name
    return found


class Again(unittest.TestCase):
    """Promises 62 to 64."""

    def test_the_example(self):
        design = seq_home()
        self.assertEqual((grade(design, "seq"), rejections(design, "seq"),
                          [most_rejected(design, "seq", n) for n in range(3)], gets_on(design, "seq")),
                         ("free", (2, 1), [1, 3, 5], True))
        self.assertEqual((grade(design, "even"), rejections(design, "even"), gets_on(design, "even")),
                         ("blocked", None, False))
        self.assertEqual((most_rejected(design, "even", 0), rejected_road(design, "even", 2)), (None, None))

    def test_grades(self):
        found = {}
        for seed in range(130):
            rng = random.Random(seed)
            design = some_design(rng)
            for reader in design.readers:
                moves = Moves(design, reader.name)
                word = grade(design, reader.name)
                self.assertEqual(word, moves.grade(), str(design))
                self.assertIs(gets_on(design, reader.name), moves.gets_on())
                self.assertIs(gets_on(design, reader.name), word != "blocked")
                other = {"once": "again", "again": "once"}[reader.word]
                self.assertEqual(grade(design.with_reader(reader.with_word(other)), reader.name), word)
                found[word] = found.get(word, 0) + 1
        self.assertGreater(min(found.values()), 10, found)

    def test_most_rejected(self):
        rejected = 0
        for seed in range(90):
            rng = random.Random(seed)
            design = some_design(rng)
            for reader in design.readers:
                told = [most_rejected(design, reader.name, many) for many in range(4)]
                roads = [rejected_road(design, reader.name, many) for many in range(4)]
                if grade(design, reader.name) == "blocked":
                    self.assertEqual((told, roads), ([None] * 4, [None] * 4))
                    continue
                self.assertEqual(told, Moves(design, reader.name).most(3), str(design))
                for many, road in enumerate(roads):
                    self.assertIsInstance(road, tuple)
                    self.assertEqual(road[0], "start " + reader.name)
                    (number, over), = counts_at(design, reader.name, road, [len(road)])
                    self.assertEqual(number, told[many])
                    self.assertLessEqual(over, many)
                    rejected += number
        self.assertGreater(rejected, 100)

    def test_no_random_road_is_rejected_more_often(self):
        reached = 0
        for seed in range(120):
            rng = random.Random(seed)
            design = some_design(rng)
            name = rng.choice(design.readers).name
            if grade(design, name) == "blocked":
                continue
            most = [most_rejected(design, name, many) for many in range(12)]
            for _ in range(8):
                watch = self.random_road(rng, design, name)
                self.assertLessEqual(watch.rejected, most[min(watch.over(), 11)] if watch.over() < 12 else 999)
                reached += watch.rejected > 1
        self.assertGreater(reached, 5)

    def random_road(self, rng, design, name):
        watch, lazy = Watch(design, name), rng.uniform(0.3, 0.7)
        watch.do("start " + name)
        for _ in range(70):
            updates = ["step", "step", "flush"] + ["begin " + kind.name for kind in design.kinds]
            updates += [f"step {cell}" for cell in watch.scene.house.back]
            own = ["next 0", "next 0", "drain 0"]
            own += [f"{word} {at}" for at in range(1, len(watch.scene.guests)) for word in ("next", "drain")]
            own += ["start " + reader.name for reader in design.readers] * (len(watch.scene.guests) < 3)
            pool = [text for text in (updates if rng.random() < lazy else own) if watch.may(text)]
            if pool:
                watch.do(rng.choice(pool))
            if watch.has_got_on:
                break
        return watch

    def test_names_that_are_none(self):
        design = seq_home()
        for value in any_values():
            for work in ALL:
                given = {"most_rejected": (2,), "rejected_road": (2,), "ring_road": (2,),
                         "heights_hold": ((2, 1), value)}.get(work.__name__, ())
                error = raised(work, design, value, *given)
                self.assertEqual(error.__class__, NoName, value)
                self.assertIs(error.name, value)
        self.assertEqual(grade(reader="seq", design=design), "free")
        self.assertEqual(most_rejected(updates=1, reader="seq", design=design), 3)


class Ratios(unittest.TestCase):
    """Promises 65 and 66."""

    def test_the_greatest_ratio(self):
        """There are heights for it, and for none that is less."""
        found = {}
        for seed in range(160):
            rng = random.Random(seed)
            design = some_design(rng) if seed % 2 else turning_design(rng)
            for reader in design.readers:
                pair, moves = rejections(design, reader.name), Moves(design, reader.name)
                word = moves.grade()
                self.assertEqual((pair is None, pair == (0, 1)), (word == "blocked", word == "bounded"))
                if word == "free" and len(moves.rows) < 150:
                    self.assertEqual((pair.__class__, gcd(*pair)), (tuple, 1))
                    self.assertTrue(moves.has_heights(pair))
                    self.assertFalse(moves.has_heights((pair[0] * 50 - 1, pair[1] * 50)), str(design))
                found[pair] = found.get(pair, 0) + 1
        self.assertGreater(len(found), 4, found)

    def test_other_ratios(self):
        """Updates that turn often, and readers that are rejected soon."""
        found = set()
        for texts, reader in (("bump c, bump c, bump c", "num c, num c, same 0 1"),
                              ("bump c, fence, fence", "num c, num c, num c, same 0 2"),
                              ("take, put s, take, put s", "read s, look s"),
                              ("bump c, bump c", "num c, num c, same 0 1, num c, same 0 3"),
                              ("bump c", "num c, num c, same 0 1, num c, num c, same 3 4"),
                              ("bump c", "num c, num c, even 0, same 0 1")):
            design = home(["k: " + texts], ["r once: " + reader], rounds="c -")
            found.add(rejections(design, "r"))
            self.assertEqual(rejections(design, "r") is not None, gets_on(design, "r"))
        self.assertLessEqual({(3, 1), (2, 1), (1, 1), None}, found)
        half = home(["k: bump c, bump c", "l: bump c, fence"], ["r once: num c, num c, even 0, same 0 1"], rounds="c 4")
        self.assertIsNone(rejections(half, "r"))
        slow = home(["k: bump c"], ["r once: num c, num c, same 0 1"], rounds="c 2")
        self.assertEqual(rejections(slow, "r"), (1, 1))

    def papers(self, seeds):
        for seed in seeds:
            rng = random.Random(seed)
            design = some_design(rng)
            name = rng.choice(design.readers).name
            yield rng, design, name, rejections(design, name), height_paper(design, name)

    def test_papers(self):
        told = 0
        for rng, design, name, pair, paper in self.papers(range(70)):
            self.assertEqual(paper is None, pair is None)
            if paper is None:
                for pair in ((0, 1), (7, 1)):
                    zeros = tuple((standing, 0) for standing in Moves(design, name).standings)
                    self.assertIs(heights_hold(design, name, pair, zeros), False)
                continue
            moves = Moves(design, name)
            self.assertEqual(sorted(map(repr, moves.standings)), sorted(repr(row[0]) for row in paper))
            self.assertIs(heights_hold(design, name, pair, paper), True)
            mixed = list(paper)
            rng.shuffle(mixed)
            self.assertIs(heights_hold(design, name, pair, tuple((one, high - 7) for one, high in mixed)), True)
            self.assertIs(heights_hold(design, name, (pair[0] + 1, pair[1]), paper), True)
            double = tuple((one, 2 * high) for one, high in paper)
            self.assertIs(heights_hold(design, name, (2 * pair[0], 2 * pair[1]), double), True)
            told += pair[0] > 0
        self.assertGreater(told, 8)

    def test_papers_word_by_word(self):
        """Heights that are changed hold just if they grow along each move as they must."""
        found = {True: 0, False: 0}
        for rng, design, name, pair, paper in self.papers(range(60)):
            if paper is None or len(paper) > 400:
                continue
            moves = Moves(design, name)
            for _ in range(6):
                heights = dict(paper)
                for node in rng.choices(range(len(paper)), k=rng.choice([1, 1, 2])):
                    more = moves.behind(node, lambda move: not move[2]) if rng.random() < 0.8 else [node]
                    for one in more:
                        heights[moves.standings[one]] += 1
                asked = rng.choice([pair, (pair[0] + 1, pair[1]), (pair[0] + 2, pair[1]), (pair[0], pair[1] + 1)])
                row = [heights[standing] for standing in moves.standings]
                holds = all(row[behind] - row[node] >= asked[1] * rejected - asked[0] * over
                            for node, told in enumerate(moves.rows) for behind, rejected, over, _ in told)
                self.assertIs(heights_hold(design, name, asked, tuple(heights.items())), holds)
                found[holds] += 1
        self.assertGreater(min(found.values()), 10, found)

    def test_papers_that_are_spoilt(self):
        for rng, design, name, pair, paper in self.papers(range(25)):
            if paper is None:
                continue
            at = rng.randrange(len(paper))
            standing, high = paper[at]
            rest = paper[:at] + paper[at + 1:]
            for wrong in (rest, paper + paper[:1], rest + (paper[at - 1],), list(paper), (), (paper,), paper + ((standing, 0),),
                          rest + ((standing, None),), rest + ((standing, True),), rest + ((standing, str(high)),),
                          rest + ([standing, high],), rest + ((standing,),), rest + ((standing, high, 0),),
                          rest + ((list(standing), high),), rest + ((with_bools(standing), high),),
                          rest + ((with_numbers(standing), high),), rest + (None,), rest + (standing,)):
                if wrong != paper:
                    self.assertIs(heights_hold(design, name, pair, wrong), False)
            for value in any_values():
                self.assertIs(heights_hold(design, name, pair, value), False)
                self.assertIs(heights_hold(design, name, pair, rest + (value,)), False)
                if isinstance(value, bool) or not isinstance(value, int):
                    self.assertIs(heights_hold(design, name, pair, rest + ((standing, value),)), False)
        self.assertIs(heights_hold(pair=(2, 1), value=height_paper(reader="seq", design=seq_home()), reader="seq",
                                   design=seq_home()), True)
        # A bool for a number, where both are the same for Python.
        design = home(["k: bump c"], ["r again: num c, num c, same 0 1"], rounds="c 2")
        paper = tuple((standing, high + 1) for standing, high in height_paper(design, "r"))
        self.assertIs(heights_hold(design, "r", (1, 1), paper), True)
        ones = tuple((standing, True if high == 1 else high) for standing, high in paper)
        self.assertEqual((paper, heights_hold(design, "r", (1, 1), ones)), (ones, False))

    def test_rings_on_the_stage(self):
        found = {}
        for seed in range(140):
            rng = random.Random(seed)
            design = some_design(rng)
            if design.rooms[0] > 0:
                design = Design.read(str(design.with_rooms((0, design.rooms[1]))))
            for reader in design.readers:
                word, pair = grade(design, reader.name), rejections(design, reader.name)
                times = rng.randint(1, 5)
                told = ring_road(design, reader.name, times)
                self.assertEqual(told is None, word == "bounded")
                found[word] = found.get(word, 0) + 1
                if told is None:
                    continue
                events, spots = told
                self.assertEqual([one.__class__ for one in (told, events, spots)], [tuple] * 3)
                self.assertEqual((len(spots), list(spots)), (times + 1, sorted(set(spots))))
                self.assertLessEqual(spots[-1], len(events))
                rows = counts_at(design, reader.name, events, spots)
                for (rejected, over), (more, later) in zip(rows, rows[1:]):
                    self.assertGreater(more, rejected)
                    if word == "blocked":
                        self.assertEqual(later, over)
                    else:
                        self.assertEqual(Fraction(more - rejected, later - over), Fraction(*pair))
        self.assertGreater(min(found.values()), 10, found)
