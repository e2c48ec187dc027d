import random
import unittest

from tests.making import KIND_WORDS, READER_WORDS, random_design, random_kind, random_reader
from tests.values import home
from unfooled.buffers import places, rooms_enough
from unfooled.designs import Design
from unfooled.scene import Scene

STORES = ("enter", "leave", "mark", "clear", "write", "put", "over", "bump")
AT_ONCE = ("read", "use", "num", "look", "aside", "move", "try", "wait", "give")
CHECKS = ("look", "same", "even")


def scripts_design(rng):
    """A design of any scripts, also ones with many stores and fences."""
    slots, parts, counters = ["s", "t"], ["p"], ["c"]
    taste = rng.choice(sorted(KIND_WORDS))
    kinds = [random_kind(rng, name, slots, parts, counters, KIND_WORDS[taste] + ["fence"], 7) for name in "kl"]
    words = READER_WORDS[rng.choice(sorted(READER_WORDS))] + ["enter", "leave", "clear", "fence"]
    readers = [random_reader(rng, name, slots, parts, counters, words, 8) for name in "rn"]
    return Design(slots, parts, kinds, readers, [("c", 4)], [], (rng.choice([0, 1, 3]), rng.choice([0, 1, 3])))


def words_of(script):
    return [text.split(" ")[0] for text in script.texts]


def is_place(script, at):
    """By the definition: some store ahead, and no fence between."""
    words = words_of(script)
    return words[at] in AT_ONCE and any(words[ahead] in STORES and "fence" not in words[ahead:at]
                                        for ahead in range(at))


def most_on_all_ways(reader, most):
    """How many stores can lie in the buffer on ways through a script, each store kept as long as
    can be; more than `most` is told as None."""
    words, known, rows, greatest = words_of(reader), set(), [(0, 0)], 0
    while rows:
        at, many = rows.pop()
        if many > most:
            return None
        if (at, many) in known:
            continue
        known.add((at, many))
        greatest = max(greatest, many)
        if at == len(words):
            continue
        behind = 0 if words[at] == "fence" else many + (words[at] in STORES)
        rows.append((at + 1, behind))
        if words[at] in CHECKS and reader.word == "again":
            rows.append((0, behind))
    return greatest


class Buffers(unittest.TestCase):
    """Promises 54 and 55."""

    def test_the_example(self):
        swap = "swap: take, write p, put s, aside, wait, give 0"
        design = home([swap], ["see once: enter, read s, use s p, leave"], rooms="1 1")
        self.assertEqual((places(design), rooms_enough(design)),
                         ((("kind", "swap", 3), ("kind", "swap", 4), ("kind", "swap", 5),
                           ("reader", "see", 1), ("reader", "see", 2)), (2, 2)))
        self.assertEqual(places(design.with_rooms((0, 1))), places(design)[:3])
        self.assertEqual(places(design.with_rooms((2, 0))), places(design)[3:])
        self.assertEqual(places(design.with_rooms((0, 0))), ())
        self.assertEqual(rooms_enough(design=design.with_rooms((0, 0))), (2, 2))

    def test_what_is_done_at_once(self):
        design = home(["k: bump c, aside, move, try, wait, give 1, give 0 free, take, put s, over s p, bump c"],
                      ["r once: clear h, num c, num c, same 1 2, even 1, read s, use s p, look s, mark h s"],
                      rounds="c -", rooms="1 1")
        self.assertEqual([place[2] for place in places(design)], [1, 2, 3, 4, 5, 6, 1, 2, 5, 6, 7])

    def test_places(self):
        found = 0
        for seed in range(700):
            design = scripts_design(random.Random(seed))
            told = [("kind", kind.name, at) for kind in design.kinds for at in range(len(kind))
                    if design.rooms[1] and is_place(kind, at)]
            told += [("reader", reader.name, at) for reader in design.readers for at in range(len(reader))
                     if design.rooms[0] and is_place(reader, at)]
            self.assertEqual(places(design), tuple(sorted(told)))
            found += len(told)
        self.assertGreater(found, 600)

    def test_rooms_enough(self):
        found = {}
        for seed in range(600):
            design = scripts_design(random.Random(seed))
            of_readers = [most_on_all_ways(reader, 40) for reader in design.readers]
            of_kinds = [max(len(run) for run in runs_of_stores(kind)) for kind in design.kinds]
            most = None if None in of_readers else max(of_readers)
            self.assertEqual(rooms_enough(design), (most, max(of_kinds)), str(design))
            found[most] = found.get(most, 0) + 1
        self.assertGreater(found[None], 40)
        self.assertGreater(min(found[0], found[1], found[2], found[3]), 5)

    def test_tries(self):
        for texts, most in (("enter, read s, look s", None), ("read s, look s, enter", 1), ("fence, enter, read s, look s", 1),
                            ("enter, fence, read s, look s, leave", 1), ("enter, fence, leave, read s, look s", 2),
                            ("enter, leave, fence, leave, read s, look s", 3), ("read s, look s, fence, enter, leave", 2),
                            ("read s, enter, look s, fence", None), ("enter, leave, clear h", 3), ("read s", 0)):
            design = home(["k: take, put s"], ["r again: " + texts])
            self.assertEqual(rooms_enough(design), (most, 1), texts)
            once = home(["k: fence"], ["r once: " + texts])
            self.assertIsNotNone(rooms_enough(once)[0])
            self.assertEqual(rooms_enough(once)[1], 0)

    def most_on_the_stage(self, rng, design):
        """How many stores lay in the buffers of one reader, in its first run, and of the updates."""
        scene = Scene(design.with_rooms((99, 99)))
        scene.do(["start", design.readers[0].name])
        guest, house, most = scene.guests[0], scene.house, [0, 0]
        for _ in range(60):
            if house.script is None:
                scene.do(["begin", rng.choice(design.kinds).name])
            if house.next_words() in (None, ["fence"]) and house.buffer:
                scene.do(["flush"])
            elif scene.may(["step"]):
                scene.do(["step"])
            if scene.runs == [] and rng.random() < 0.6:
                scene.do(["next", 0] if guest.may_go_on() else ["drain", 0])
                most[0] = max(most[0], len(guest.buffer)) if scene.runs == [] else most[0]
            most[1] = max(most[1], len(house.buffer))
        return most

    def test_no_more_lies_there(self):
        full = 0
        for seed in range(150):
            rng = random.Random(seed)
            design = random_design(rng, flavour=rng.choice(["ages", "mixed"]))
            enough = rooms_enough(design)
            for _ in range(4):
                of_reader, of_update = self.most_on_the_stage(rng, design)
                self.assertLessEqual(of_update, enough[1])
                if enough[0] is not None:
                    self.assertLessEqual(of_reader, enough[0])
                    full += of_reader == enough[0] > 0
        self.assertGreater(full, 50)


def runs_of_stores(kind):
    runs = [[]]
    for word in words_of(kind):
        if word == "fence":
            runs.append([])
        elif word in STORES:
            runs[-1].append(word)
    return runs
