import random
import unittest

from tests.making import near_design, random_design
from tests.test_again import Watch, seq_home, some_design
from tests.test_papers import come_about
from tests.values import any_values, home, raised
from unfooled.again import grade, most_rejected
from unfooled.errors import NoName
from unfooled.spares import is_sure, longest_rejected, most_steps, tries_needed
from unfooled.watched import led_on


class Locks:
    """All that can come about with a spare, by led_on alone: states are tuples (standing, how often
    it was rejected, whether it asks for the lock)."""

    def __init__(self, design, name, tries):
        self.design = design.with_reader(design.reader(name).with_word("again"))
        self.name, self.tries = name, tries
        self.is_sure = True
        first = (come_about(self.design, name)[0], 0, tries == 0)
        self.known, rows, self.edges = {first: 0}, [first], []
        for state in rows:
            for behind, steps in self.behind(state):
                self.edges.append((state, behind, steps))
                if behind not in self.known and behind != "on":
                    self.known[behind] = -1
                    rows.append(behind)

    def behind(self, state):
        """What comes next: pairs (state or "on", own steps)."""
        standing, rejected, asks = state
        is_free, found = standing[0][0] == "", []
        for label, behind, _, words in led_on(self.design, self.name, standing):
            is_next = label == ("own", "next")
            if asks and (not is_free and is_next or is_free and label[0] != "own"):
                continue
            if behind is None:
                found.append(("on", 1))
            elif "again" in words:
                if asks:
                    self.is_sure = False
                else:
                    found.append(((behind, rejected + 1, rejected + 1 == self.tries), 1))
            else:
                found.append(((behind, rejected, asks), int(is_next)))
        if asks and found == []:
            self.is_sure = False
        return found

    def most_steps(self):
        """The greatest number of own steps until it gets on, if it is sure."""
        most, is_more = 0, True
        while is_more:
            is_more = False
            for state, behind, steps in self.edges:
                many = self.known[state] + steps
                if self.known[state] >= 0 and behind == "on":
                    most = max(most, many)
                elif self.known[state] >= 0 and self.known[behind] < many:
                    self.known[behind], is_more = many, True
        return most


class Spares(unittest.TestCase):
    """Promise 67."""

    def test_the_example(self):
        design = seq_home()
        self.assertEqual((is_sure(design, "even", 1), most_steps(design, "even", 1)), (True, 6))
        self.assertEqual((most_steps(design, "seq", 2), longest_rejected(design, "seq"),
                          tries_needed(design, "seq")), (15, 5, None))
        self.assertEqual([most_steps(design, "seq", tries) for tries in range(4)], [5, 10, 15, 20])
        self.assertEqual([most_steps(tries=tries, reader="even", design=design) for tries in range(3)], [4, 6, 8])

    def test_all_that_can_come_about(self):
        found = {True: 0, False: 0}
        for seed in range(130):
            rng = random.Random(seed)
            design = some_design(rng)
            for reader in design.readers:
                for tries in (0, 1, rng.choice([2, 3])):
                    locks = Locks(design, reader.name, tries)
                    if len(locks.known) > 1500:
                        continue
                    told = is_sure(design, reader.name, tries)
                    self.assertIs(told, locks.is_sure, (str(design), tries))
                    self.assertEqual(most_steps(design, reader.name, tries), locks.most_steps() if told else None,
                                     (str(design), tries))
                    found[told] += 1
        self.assertGreater(found[False], 5)

    def test_who_is_not_sure(self):
        turned = home(["k: bump c"], ["r again: num c, even 0", "n again: num c, num c, even 1"], rounds="c -")
        for name in ("r", "n"):
            self.assertEqual([is_sure(turned, name, tries) for tries in range(3)], [True, False, False])
            self.assertEqual([most_steps(turned, name, tries) for tries in range(2)], [len(turned.reader(name)), None])
        waits = home(["k: take, put s, aside, wait, give 0"],
                     ["r again: enter, read s, look s, leave", "n again: read s, look s, enter", "o once: read s, look s"])
        self.assertEqual([is_sure(waits, name, 1) for name in "rno"], [False, True, True])
        moves = home(["k: take, put s, aside, move, move"], ["r again: enter, read s, look s, leave"])
        self.assertEqual([is_sure(moves, "r", tries) for tries in range(3)], [True, False, False])
        once = home(["k: take, put s, aside, move"], ["r again: enter, read s, look s, leave"])
        self.assertEqual([is_sure(once, "r", tries) for tries in range(3)], [True, False, False])
        # What lies in its buffer drains as it waits, and then shows no age any more.
        drains = home(["k: wait, take, put s, wait"], ["r again: read s, enter, leave, look s"], rooms="2 0")
        self.assertEqual([is_sure(drains, "r", tries) for tries in (1, 2)], [True, True])

    def test_tries(self):
        found = set()
        for seed in range(150):
            rng = random.Random(seed)
            design = random_design(rng, reader_steps=6) if seed % 2 else near_design(rng)
            for reader in design.readers:
                needed, word = tries_needed(design, reader.name), grade(design, reader.name)
                self.assertEqual(needed is not None, word == "bounded")
                longest = longest_rejected(design, reader.name)
                self.assertEqual(longest, self.longest_by_moves(design, reader.name))
                if needed is not None:
                    found.add(needed)
                    self.assertEqual(needed, most_rejected(design, reader.name, 20) + 1)
                rows = [most_steps(design, reader.name, tries) for tries in range(5)]
                for ahead, steps in zip(rows, rows[1:]):
                    if ahead is not None and steps is not None:
                        self.assertLessEqual(steps, ahead + longest)
        self.assertIn(1, found)

    def longest_by_moves(self, design, name):
        design = design.with_reader(design.reader(name).with_word("again"))
        return max([0] + [standing[5][0] + 1 for standing in come_about(design, name)
                          for row in led_on(design, name, standing) if "again" in row[3]])

    def test_bounded_readers(self):
        """Some checks say no at most so often, whatever comes."""
        design = home(["k: take, put s, aside, give 0"],
                      ["r again: num c, num c, same 0 1, read s", "n again: read t, look t, read s, look s"],
                      rounds="c 2", slots="s t")
        self.assertEqual([tries_needed(design, name) for name in "rn"], [1, None])
        self.assertEqual([longest_rejected(design, name) for name in "rn"], [0, 4])
        # The reader itself keeps the age: the second update waits for it.
        barred = home(["k: take, put s, move"], ["r again: enter, read s, look s"])
        self.assertEqual((tries_needed(barred, "r"), longest_rejected(barred, "r")), (None, 3))

    def test_on_the_stage(self):
        """Random roads with the lock: who is sure gets on, with no more steps."""
        known = {True: 0, False: 0}
        for seed in range(200):
            rng = random.Random(seed)
            design = some_design(rng)
            name, tries = rng.choice(design.readers).name, rng.randint(0, 2)
            sure, most = is_sure(design, name, tries), most_steps(design, name, tries)
            for _ in range(5):
                watch = self.random_road(rng, design, name, tries)
                if watch is not None and watch.rejected >= tries:
                    known[watch.has_got_on] += 1
                    self.assertTrue(watch.has_got_on or not sure, (str(design), tries))
                    self.assertTrue(not sure or watch.own <= most)
        self.assertGreater(known[True], 50)
        self.assertGreater(known[False], 0)

    def random_road(self, rng, design, name, tries):
        """A road on which the reader 0 asks for the lock when it was rejected so often; None if it
        goes on too long."""
        watch = Watch(design, name)
        watch.do("start " + name)
        for _ in range(120):
            if watch.has_got_on or watch.rejected > tries:
                return watch
            others = [f"{word} {at}" for at in range(1, len(watch.scene.guests)) for word in ("next", "drain")]
            updates = ["step", "flush"] + [f"step {cell}" for cell in watch.scene.house.back]
            if watch.rejected < tries:
                updates += ["begin " + kind.name for kind in design.kinds]
                others += ["start " + reader.name for reader in design.readers] * (len(watch.scene.guests) < 3)
                pool = rng.choice([updates, others, ["next 0", "drain 0"], ["next 0", "drain 0"]])
            elif watch.scene.house.script is not None:
                self.let_others_leave(watch)
                pool = updates + ["drain 0"]
                if not any(watch.may(text) for text in pool):
                    return watch
            else:
                pool = ["next 0", "drain 0"]
            pool = [text for text in pool if watch.may(text)]
            if pool:
                watch.do(rng.choice(pool))
        return None

    def let_others_leave(self, watch):
        """Others keep the update from nothing: they go on until they show no age but the house's."""
        scene = watch.scene
        for at in range(1, len(scene.guests)):
            for _ in range(60):
                if scene.guests[at].shown in (None, scene.house.age) and at not in scene.keepers:
                    break
                watch.do(f"drain {at}" if scene.guests[at].buffer else f"next {at}")

    def test_names_that_are_none(self):
        design = seq_home()
        for value in any_values():
            for work, given in ((is_sure, (1,)), (most_steps, (1,)), (tries_needed, ()), (longest_rejected, ())):
                error = raised(work, design, value, *given)
                self.assertEqual(error.__class__, NoName, value)
                self.assertIs(error.name, value)
        self.assertIs(is_sure(tries=3, reader="seq", design=design), True)
        self.assertIsNone(tries_needed(reader="even", design=design))
        self.assertEqual(longest_rejected(reader="even", design=design), 2)
