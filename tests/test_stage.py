import random
import unittest

from tests.making import random_design
from tests.values import any_values, home, raised
from unfooled.designs import Design
from unfooled.errors import InvalidEvent, Refused
from unfooled.stage import Played, play, possible


def steps(many):
    return ["step"] * many


def begin(name, many):
    return ["begin " + name] + steps(many)


def refused_at(design, events):
    error = raised(play, design, events)
    return error.at if isinstance(error, Refused) else error


class Updates(unittest.TestCase):
    """Promises 13 and 15."""

    def test_the_beginning(self):
        design = home(["k: take, put t"], ["r once: read s"], slots="t s", parts="p q",
                      rounds="c 2", wide="s 4")
        seen = play(design, [])
        self.assertIsInstance(seen, Played)
        self.assertEqual((seen.age, seen.hung, seen.lives, seen.stamps, seen.counts),
                         (0, (0, 1), (0, 1), (0,), (0,)))
        self.assertEqual(seen.contents, (((0, 0), (0, 0)), ((1, 0), (1, 0))))
        self.assertEqual((seen.hand, seen.out, seen.pile, seen.back, seen.going, seen.waiting),
                         (None, (), (), (), None, ()))
        self.assertEqual((seen.readers, seen.runs, seen.met), ((), (), ()))

    def test_take_write_put(self):
        design = home(["k: take, write q, put s, over s p, aside"], ["r once: read s"],
                      parts="p q", wide="s 2")
        seen = play(design, begin("k", 2))
        self.assertEqual((seen.hand, seen.hung, seen.going), (1, (0,), ("k", 2, 1)))
        seen = play(design, begin("k", 3))
        self.assertEqual((seen.hand, seen.hung, seen.lives, seen.out, seen.stamps),
                         (None, (1,), (1,), (0,), (1,)))
        self.assertEqual(seen.contents, (((1, 0), (1, 1)),))
        seen = play(design, begin("k", 5) + begin("k", 4))
        self.assertEqual((seen.contents, seen.stamps, seen.pile, seen.out, seen.going),
                         ((((2, 2), (2, 2)),), (2,), ((0, 0),), (1,), ("k", 4, 2)))

    def test_pile_ages_and_back(self):
        design = home(["k: take, put s, aside, move, give 2", "n: aside"], ["r once: enter"])
        seen = play(design, begin("k", 5))
        self.assertEqual((seen.age, seen.pile, seen.back), (1, ((0, 0),), ()))
        seen = play(design, begin("k", 5) * 2)
        self.assertEqual((seen.age, seen.pile, seen.back), (2, ((1, 1),), (0,)))
        seen = play(design, begin("k", 5) * 3)
        self.assertEqual((seen.pile, seen.back), (((2, 2),), (0, 1)))

    def test_out_since_elder_updates(self):
        design = home(["k: take, put s", "a: aside, give 0"], ["r once: enter"])
        seen = play(design, begin("k", 2) * 2)
        self.assertEqual(seen.out, (0, 1))
        self.assertEqual(play(design, begin("k", 2) * 2 + begin("a", 1)).pile, ((0, 0), (1, 0)))
        self.assertEqual(play(design, begin("k", 2) * 2 + begin("a", 2)).back, (0, 1))

    def test_lots_ascend(self):
        design = home(["k: take, put t, take, put s", "a: aside", "g: give 0"], ["r once: enter"],
                      slots="s t")
        self.assertEqual(play(design, begin("k", 4)).out, (0, 1))
        self.assertEqual(play(design, begin("k", 4) + begin("a", 1)).pile, ((0, 0), (1, 0)))
        self.assertEqual(play(design, begin("k", 4) + begin("a", 1) + begin("g", 1)).back, (0, 1))

    def test_cells_that_come_back(self):
        design = home(["k: take, put s, aside, give 0"], ["r once: read s"])
        seen = play(design, begin("k", 4) + ["begin k", "step 0"])
        self.assertEqual((seen.hand, seen.back), (0, ()))
        seen = play(design, begin("k", 4) + ["begin k", "step 0", "step"])
        self.assertEqual((seen.hung, seen.lives, seen.contents), ((0,), (2,), (((2, 0),),)))
        seen = play(design, begin("k", 4) + begin("k", 1))
        self.assertEqual((seen.hand, seen.back), (2, (0,)))
        for events in (["begin k", "step 0"], begin("k", 4) + ["begin k", "step 1"],
                       begin("k", 4) + ["begin k", "step", "step 0"]):
            self.assertEqual(refused_at(design, events), len(events) - 1)
        never = design.with_reuse("never")
        self.assertEqual(refused_at(never, begin("k", 4) + ["begin k", "step 0"]), 6)
        self.assertEqual(possible(never, begin("k", 4) + ["begin k"]), ("start r", "step"))

    def test_one_update_at_a_time(self):
        design = home(["k: aside, aside"], ["r once: read s"])
        self.assertEqual(refused_at(design, ["step"]), 0)
        self.assertEqual(refused_at(design, ["begin k", "begin k"]), 1)
        self.assertEqual(refused_at(design, begin("k", 3)), 3)
        self.assertEqual(play(design, begin("k", 2) + ["begin k"]).going, ("k", 0, 2))

    def test_stores_in_the_buffer(self):
        design = home(["k: take, write p, put s, over s p, bump c, aside, fence"],
                      ["r once: read s"], rooms="0 3", rounds="c -", wide="s 2")
        seen = play(design, begin("k", 4))
        self.assertEqual(seen.waiting, ("write 1 p", "put s 1", "write 1 p"))
        self.assertEqual((seen.hung, seen.out, seen.hand, seen.stamps), ((0,), (0,), None, (0,)))
        self.assertEqual(refused_at(design, begin("k", 5)), 5)
        events = begin("k", 4) + ["flush"] + steps(2)
        seen = play(design, events)
        self.assertEqual((seen.waiting, seen.pile), (("put s 1", "write 1 p", "bump c"), ((0, 0),)))
        self.assertEqual(refused_at(design, events + ["step"]), len(events))
        seen = play(design, events + ["flush"])
        self.assertEqual((seen.hung, seen.contents, seen.stamps, seen.counts),
                         ((1,), (((1, 1),),), (1,), (0,)))
        seen = play(design, events + ["flush"] * 3)
        self.assertEqual((seen.counts, seen.going), ((1,), ("k", 6, 1)))
        self.assertEqual(play(design, events + ["flush"] * 3 + ["step"]).going, None)
        self.assertEqual(refused_at(design, events + ["flush"] * 4), len(events) + 3)

    def test_an_update_ends_when_its_buffer_is_empty(self):
        design = home(["k: bump c"], ["r once: read s"], rooms="0 1", rounds="c -")
        self.assertEqual(play(design, begin("k", 1)).going, ("k", 1, 1))
        self.assertEqual(possible(design, begin("k", 1)), ("flush", "start r"))
        self.assertEqual(play(design, begin("k", 1) + ["flush"]).going, None)

    def test_given_back_while_memory_still_has_it(self):
        design = home(["k: take, put s, aside, give 0, take, write p, put t"],
                      ["r once: read s, use s p"], slots="s t", rooms="0 1")
        events = begin("k", 4)
        seen = play(design, events)
        self.assertEqual((seen.hung, seen.back, seen.lives), ((0, 1), (0,), (0, 1)))
        seen = play(design, events + ["step 0"])
        self.assertEqual((seen.hung, seen.hand, seen.lives, seen.contents),
                         ((0, 1), 0, (3, 1), (((3, 0),), ((1, 0),))))
        run = ["start r", "next 0", "next 0"]
        self.assertEqual(play(design, events + run).met, ((7, "used"),))
        self.assertEqual(play(design, events + ["step 0"] + run).met, ((8, "torn"),))

    def test_a_store_takes_effect_in_a_later_life(self):
        design = home(["k: take, write p, put s, take, put s, aside, give 0, take, put s"],
                      ["r once: read s, use s p"], rooms="0 9")
        events = begin("k", 7) + ["step 1", "step"] + ["flush"] * 2
        seen = play(design, events)
        self.assertEqual((seen.hung, seen.lives, seen.contents), ((1,), (3,), (((1, 1),),)))

    def test_own_view_of_over(self):
        design = home(["k: take, put s, over s p"], ["r once: read s"], rooms="0 2")
        seen = play(design, begin("k", 3) + ["flush"] * 2)
        self.assertEqual((seen.hung, seen.contents), ((1,), (((1, 1),),)))


class Keeping(unittest.TestCase):
    """Promises 15 and 16: what readers keep from being done."""

    def test_move_and_try(self):
        design = home(["m: move", "t: try"], ["r once: enter, read s, leave"])
        run = ["start r", "next 0"]
        seen = play(design, run + begin("m", 1))
        self.assertEqual((seen.age, seen.readers), (1, (("r", 1, 0, (), 0),)))
        events = run + begin("m", 1)
        self.assertEqual(refused_at(design, events + begin("m", 1)), 5)
        self.assertEqual(play(design, events + begin("t", 1)).age, 1)
        self.assertEqual(play(design, events + ["next 0", "next 0"] + begin("m", 1)).age, 2)
        self.assertEqual(play(design, events + ["next 0", "next 0"] + begin("t", 1)).age, 2)
        self.assertEqual(play(design, run + begin("t", 1)).age, 1)

    def test_wait(self):
        design = home(["w: aside, wait", "x: wait"], ["r once: enter, enter, leave"])
        run = ["start r", "next 0"]
        self.assertEqual(refused_at(design, run + begin("w", 2)), 4)
        self.assertEqual(refused_at(design, run + begin("x", 1)), 3)
        self.assertIsNone(play(design, run + begin("w", 1) + ["next 0", "step"]).going)
        self.assertIsNone(play(design, run + begin("w", 1) + ["next 0", "next 0", "step"]).going)
        late = begin("w", 1) + run + ["step"]
        self.assertIsNone(play(design, late).going)
        both = ["start r", "next 0", "start r", "next 1"] + begin("w", 1) + ["next 0"]
        self.assertEqual(refused_at(design, both + ["step"]), len(both))
        self.assertIsNone(play(design, both + ["next 1", "step"]).going)
        again = run + begin("w", 1) + ["next 0"] + ["step"] + begin("w", 1)
        self.assertEqual(refused_at(design, again + ["step"]), len(again))

    def test_wait_with_a_buffer(self):
        design = home(["w: wait"], ["r once: enter, enter, leave"], rooms="1 0")
        shown = ["start r", "next 0", "drain 0", "begin w"]
        self.assertEqual(refused_at(design, shown + ["next 0", "step"]), 5)
        self.assertIsNone(play(design, shown + ["next 0", "drain 0", "step"]).going)
        self.assertIsNone(play(design, ["start r", "next 0", "begin w", "step"]).going)
        self.assertIsNone(play(design, ["start r", "next 0", "begin w", "drain 0", "step"]).going)

    def test_give_free(self):
        design = home(["k: take, put s, aside, give 0 free", "g: give 0"],
                      ["r once: read s, mark h s, mark i s, clear h, look s"])
        run = ["start r", "next 0", "next 0"]
        seen = play(design, run + begin("k", 4))
        self.assertEqual((seen.pile, seen.back), (((0, 0),), ()))
        self.assertEqual(seen.readers, (("r", 2, None, (("h", 0),), 0),))
        self.assertEqual(play(design, run + begin("k", 4) + begin("g", 1)).back, (0,))
        self.assertEqual(play(design, run + ["next 0", "next 0"] + begin("k", 4)).pile, ((0, 0),))
        both = play(design, run + ["next 0"])
        self.assertEqual(both.readers[0][3], (("h", 0), ("i", 0)))
        self.assertEqual(play(design, run + begin("k", 4) + ["next 0", "next 0", "next 0"]).runs,
                         ((0, "rejected", (), None),))
        seen = play(design, run + begin("k", 3) + ["start r", "next 1", "next 1", "step"])
        self.assertEqual((seen.pile, seen.back), (((0, 0),), ()))

    def test_buffers_of_readers(self):
        design = home(["m: move"], ["r once: enter, read s, mark h s, fence, leave"], rooms="2 0")
        events = ["start r", "next 0", "next 0"] + begin("m", 1)
        seen = play(design, events)
        self.assertEqual(seen.readers, (("r", 2, None, (), 1),))
        seen = play(design, events + ["drain 0"])
        self.assertEqual(seen.readers, (("r", 2, 0, (), 0),))
        self.assertEqual(refused_at(design, events + ["drain 0", "drain 0"]), 6)
        full = events + ["next 0"]
        self.assertEqual(play(design, full).readers, (("r", 3, None, (), 2),))
        self.assertEqual(refused_at(design, full + ["next 0"]), 6)
        self.assertEqual(refused_at(design, full + ["drain 0", "next 0"]), 7)
        seen = play(design, full + ["drain 0", "drain 0", "next 0", "next 0"])
        self.assertEqual((seen.readers, seen.runs),
                         ((("r", 0, 0, (("h", 0),), 1),), ((0, "accepted", (), (0, 1)),)))
        tight = design.with_rooms((1, 0))
        self.assertEqual(refused_at(tight, full), 5)
        # Between two runs what it shows, and its buffer, stay.
        ended = full + ["drain 0", "drain 0", "next 0", "next 0", "next 0", "drain 0"]
        self.assertEqual(play(design, ended).readers, (("r", 1, None, (("h", 0),), 1),))


class Reading(unittest.TestCase):
    """Promises 16 and 17."""

    def test_numbers_and_rounds(self):
        script = ["r once: num c, num c, same 0 1", "e once: num c, even 0"]
        for size, turns, word, harm in (("2", 2, "accepted", True), ("2", 1, "rejected", False),
                                        ("-", 2, "rejected", False), ("3", 3, "accepted", True),
                                        ("4", 0, "accepted", False), ("3", 2, "rejected", False)):
            design = home(["b: bump c"], script, rounds="c " + size)
            events = ["start r", "next 0"] + begin("b", 1) * turns + ["next 0", "next 0"]
            seen = play(design, events)
            self.assertEqual(seen.runs[0][1], word)
            self.assertEqual(seen.met, ((len(events) - 1, "fooled"),) if harm else ())
        for size, turns, word in (("-", 3, "rejected"), ("-", 2, "accepted"), ("3", 3, "accepted"),
                                  ("3", 4, "rejected"), ("4", 4, "accepted")):
            design = home(["b: bump c"], script, rounds="c " + size)
            seen = play(design, begin("b", 1) * turns + ["start e", "next 0", "next 0"])
            self.assertEqual((seen.runs[0][1], seen.counts, seen.met), (word, (turns,), ()))

    def test_looks_and_stamps(self):
        kinds = ["k: take, put s, aside, give 0", "w: over s p"]
        back = begin("k", 4) + ["begin k", "step 0"] + steps(3)
        for wide, more, word, harm in (("-", back, "accepted", True), ("s 2", back, "accepted", True),
                                       ("s 3", back, "rejected", False), ("-", [], "accepted", False),
                                       ("-", begin("k", 4), "rejected", False),
                                       ("s 2", begin("w", 1), "accepted", False)):
            design = home(kinds, ["r once: read s, look s"], wide=wide)
            events = ["start r", "next 0"] + more + ["next 0"]
            seen = play(design, events)
            self.assertEqual(seen.runs[0][1], word)
            self.assertEqual(seen.met, ((len(events) - 1, "fooled"),) if harm else ())

    def test_used_and_spoilt(self):
        design = home(["k: take, put s, aside, give 0"], ["r once: read s, use s p, look s",
                                                          "n once: read s, use s p"])
        seen = play(design, ["start n", "next 0"] + begin("k", 4) + ["next 0"])
        self.assertEqual((seen.met, seen.runs),
                         (((7, "used"),), ((0, "spoilt", (("s", "p", (0, 0)),), None),)))
        seen = play(design, ["start r", "next 0"] + begin("k", 4) + ["next 0", "next 0"])
        self.assertEqual((seen.met, seen.runs),
                         (((7, "used"),), ((0, "rejected", (("s", "p", (0, 0)),), None),)))
        seen = play(design, ["start n", "next 0"] + begin("k", 3) + ["next 0"])
        self.assertEqual(seen.met, ())

    def test_a_cell_read_when_its_life_is_over(self):
        design = home(["k: take, put s, aside, give 0, fence"], ["r once: read s, look s, use s p"],
                      rooms="0 1")
        seen = play(design, begin("k", 4) + ["start r"] + ["next 0"] * 3)
        self.assertEqual((seen.met, seen.runs[0][1]), (((8, "used"),), "spoilt"))

    def test_again(self):
        design = home(["k: take, put s, aside, give 0"], ["r again: enter, read s, use s p, look s"])
        events = ["start r", "next 0", "next 0"] + begin("k", 4) + ["next 0", "next 0"]
        seen = play(design, events)
        self.assertEqual((seen.met, seen.runs, seen.readers),
                         (((8, "used"),), (), (("r", 0, 0, (), 0),)))
        seen = play(design, events + ["next 0"] * 4)
        self.assertEqual((seen.runs, seen.met),
                         (((0, "accepted", (("s", "p", (1, 0)),), (1, 1)),), ((8, "used"),)))

    def test_torn(self):
        design = home(["k: over s p, over s q"], ["r once: read s, use s p, use s q"], parts="p q")
        seen = play(design, ["start r", "next 0", "next 0"] + begin("k", 2) + ["next 0"])
        self.assertEqual((seen.met, seen.runs),
                         (((6, "torn"),),
                          ((0, "accepted", (("s", "p", (0, 0)), ("s", "q", (0, 1))), None),)))

    def test_early(self):
        design = home(["k: over s p, over s q"], ["r once: read s, use s p"], parts="p q")
        seen = play(design, begin("k", 1) + ["start r", "next 0", "next 0"])
        self.assertEqual((seen.met, seen.runs[0][3]), (((4, "early"),), (1, 1)))
        seen = play(design, begin("k", 2) + ["start r", "next 0", "next 0"])
        self.assertEqual((seen.met, seen.runs[0][3]), ((), (1, 1)))
        # What is yet to be written over leads elsewhere: torn, not early.
        more = home(["k: take, write p, put s, take, put s"], ["r once: read s, use s p"])
        seen = play(more, begin("k", 3) + ["start r", "next 0", "next 0"])
        self.assertEqual(seen.met, ((6, "torn"),))
        waiting = design.with_rooms((0, 1))
        seen = play(waiting, begin("k", 1) + ["start r", "next 0", "next 0"])
        self.assertEqual((seen.met, seen.runs[0][3]), ((), (0, 0)))
        twice = home(["k: over s p, over s p"], ["r once: read s, use s p"])
        seen = play(twice, begin("k", 1) + ["start r", "next 0", "next 0"])
        self.assertEqual(seen.met, ((4, "early"),))

    def test_a_run_without_uses_fits_to_all(self):
        design = home(["k: over s p"], ["r once: enter"])
        self.assertEqual(play(design, begin("k", 1) * 2 + ["begin k", "start r", "next 0"]).runs,
                         ((0, "accepted", (), (0, 3)),))

    def test_back(self):
        design = home(["k: over s p, over s q"], ["o once: read s, use s p", "n once: read s, use s q"],
                      parts="p q")
        seen = play(design, ["start o", "start n"] + begin("k", 1)
                    + ["next 0", "next 0", "next 1", "next 1"])
        self.assertEqual(seen.met, ((5, "early"), (7, "back")))
        # The later one began ahead of the end of the first one.
        seen = play(design, ["start o", "start n"] + begin("k", 1)
                    + ["next 1", "next 0", "next 0", "next 1"])
        self.assertEqual(seen.met, ((6, "early"),))
        # Behind the update it sees the same moment.
        seen = play(design, ["start o", "start n"] + begin("k", 1)
                    + ["next 0", "next 0", "next 1", "step", "next 1"])
        self.assertEqual(seen.met, ((5, "early"),))

    def test_the_last_try_counts(self):
        design = home(["k: over s p, over s q, bump c"],
                      ["o once: read s, use s p", "n again: num c, even 0, read s, use s q"],
                      parts="p q", rounds="c 2")
        first = begin("k", 3)
        events = first + ["start n", "start o", "next 0"] + begin("k", 1) + ["next 1", "next 1", "next 0"]
        self.assertEqual(play(design, events).met, ((len(events) - 2, "early"),))
        self.assertEqual(play(design, events).readers[0][1], 0)
        # The try that begins now has the early run ahead of it.
        blocked = home(["k: over s p, over s q"],
                       ["o once: read s, use s p", "n again: read s, num c, even 1, use s q"],
                       parts="p q", rounds="c 2")
        seen = play(blocked, ["start o", "start n", "next 1"] + begin("k", 1)
                    + ["next 0", "next 0", "next 1", "next 1", "next 1"])
        self.assertEqual(seen.met, ((6, "early"),))


class Playing(unittest.TestCase):
    """Promises 14 and 18."""

    def test_the_example(self):
        design = Design.read("slots s\nparts p\nrounds -\nwide -\nrooms 0 0\nreuse any\nkind k: "
                             "take, write p, put s, aside, give 0\nreader r once: read s, use s p, "
                             "look s, use s p")
        whole, again = ["begin k"] + ["step"] * 5, ["begin k", "step 0"] + ["step"] * 4
        seen = play(design, ["start r", "next 0"] + whole + again + ["next 0"] * 3)
        self.assertEqual((seen.met, seen.hung, seen.lives),
                         (((14, "used"), (15, "fooled"), (16, "used")), (0,), (2,)))

    def test_wrong_events(self):
        design = home(["k: take, put s"], ["r once: read s"])
        for value in any_values():
            for work in (play, possible):
                error = raised(work, design, value)
                if isinstance(value, (list, tuple)) and list(value) == []:
                    self.assertIsNone(error)
                else:
                    self.assertEqual((error.__class__, error.at), (InvalidEvent, 0), value)
                    error = raised(work, design, ["step", value])
                    if value not in ("step", "next 0"):
                        self.assertEqual((error.__class__, error.at), (InvalidEvent, 1), value)
                    else:
                        self.assertEqual((error.__class__, error.at), (Refused, 0), value)
        for event in ("start k", "begin r", "start", "begin", "next", "drain", "next r", "next 00",
                      "step x", "step 0 1", "flush 0", "Step", "step ", " step", "next -1",
                      "start r k", "next 12345", "next  0", "start  r"):
            self.assertEqual(raised(play, design, ["begin k", event]).at, 1, event)
            self.assertEqual(raised(play, design, ["begin k", event]).__class__, InvalidEvent)
        self.assertEqual(refused_at(design, ("next 99",)), 0)
        self.assertEqual(refused_at(design, ["begin k", "step", "drain 0"]), 2)
        self.assertEqual(raised(play, design, ["next 0", "begin k", 5]).at, 2)

    def test_lists_and_tuples_and_names(self):
        design = home(["k: take, put s"], ["r once: read s"])
        events = ["start r", "begin k", "step"]
        seen = play(events=events, design=design)
        self.assertEqual(seen.hand, play(design, tuple(events)).hand)
        events.clear()
        self.assertEqual(seen.going, ("k", 1, 1))
        self.assertEqual(possible(events=("begin k",), design=design), ("start r", "step"))
        with self.assertRaises(TypeError):
            iter(seen)

    def test_possible_by_trying(self):
        for seed in range(60):
            rng = random.Random(seed)
            design = random_design(rng)
            events = []
            for _ in range(25):
                can = possible(design, events)
                texts = ["step", "flush"] + [f"step {cell}" for cell in range(8)]
                texts += [f"{word} {at}" for word in ("next", "drain") for at in range(7)]
                texts += ["start " + reader.name for reader in design.readers]
                texts += ["begin " + kind.name for kind in design.kinds]
                tried = [text for text in texts if raised(play, design, events + [text]) is None]
                self.assertEqual(can, tuple(sorted(tried)))
                events.append(rng.choice(can))
                if len([event for event in events if event[:5] == "start"]) > 3:
                    break

    def test_the_same_call_the_same_result(self):
        design = random_design(random.Random(5))
        events = ["begin " + design.kinds[0].name]
        one, other = play(design, events), play(design, events)
        self.assertEqual(vars(one), vars(other))
        for value in vars(one).values():
            self.assertNotIsInstance(value, list)
