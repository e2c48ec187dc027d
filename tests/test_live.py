import random
import unittest

from tests.making import random_design
from tests.values import any_values, home, raised
from unfooled.designs import Design
from unfooled.errors import InvalidEvent, Refused
from unfooled.live import Live
from unfooled.stage import play, possible

ODD = ("slots s\nparts p q\nrounds c 2\nwide -\nrooms 0 0\nreuse never\n"
       "kind k: bump c, over s p, over s q, bump c\n"
       "reader o once: read s, use s p\nreader n once: read s, use s q")


class Lives(unittest.TestCase):
    """Promise 19."""

    def test_the_example(self):
        odd = Design.read(ODD)
        live = Live(odd)
        met = live.several(["start o", "start n", "begin k", "step", "step", "next 0", "next 0",
                            "next 1", "next 1"])
        self.assertEqual(met[5:], ((), ("early",), (), ("back",)))
        self.assertEqual(live.played.runs, ((0, "accepted", (("s", "p", (0, 1)),), (1, 1)),
                                            (1, "accepted", (("s", "q", (0, 0)),), (0, 0))))
        self.assertEqual((live.can(), live.played.going), (("next 0", "next 1", "start n", "start o",
                                                            "step"), ("k", 2, 1)))
        self.assertEqual((live.undo(), live.events, possible(odd, [])),
                         (True, (), ("begin k", "start n", "start o")))

    def test_do(self):
        live = Live(design=home(["k: take, put s, aside, give 0"], ["r once: read s, use s p"]))
        self.assertEqual((live.events, len(live), live.played.hung), ((), 0, (0,)))
        for event in ["start r", "next 0", "begin k"] + ["step"] * 4:
            self.assertEqual(live.do(event), ())
        self.assertEqual(live.do(event="next 0"), ("used",))
        self.assertEqual((len(live), len(live.events)), (8, 8))
        self.assertEqual(live.played.met, ((7, "used"),))

    def test_refused_events_change_nothing(self):
        live = Live(home(["k: take, put s"], ["r once: read s"]))
        live.do("begin k")
        for value in any_values():
            error = raised(live.do, value)
            if value == "step":
                self.assertIsNone(error)
                live.undo()
            elif value == "next 0":
                self.assertEqual((error.__class__, error.at), (Refused, 1))
            else:
                self.assertEqual((error.__class__, error.at), (InvalidEvent, 1), value)
            error = raised(live.several, value)
            if value in ([], ()) and not isinstance(value, str):
                self.assertIsNone(error)
                live.undo()
            else:
                self.assertEqual((error.__class__, error.at), (InvalidEvent, 0), value)
        self.assertEqual((live.events, len(live)), (("begin k",), 1))
        error = raised(live.several, ["step", "begin k"])
        self.assertEqual((error.__class__, error.at), (Refused, 1))
        error = raised(live.several, ["step", "begin k", None])
        self.assertEqual((error.__class__, error.at), (InvalidEvent, 2))
        self.assertEqual((live.events, len(live), live.played.hand), (("begin k",), 1, None))

    def test_several_and_none(self):
        live = Live(home(["k: take, put s"], ["r once: read s"]))
        self.assertEqual(live.several([]), ())
        self.assertEqual(live.several(events=("begin k", "step")), ((), ()))
        self.assertEqual((len(live), live.events), (2, ("begin k", "step")))
        self.assertTrue(live.undo())
        self.assertEqual((len(live), live.events, live.played.going), (1, (), None))
        self.assertTrue(live.undo())
        self.assertIs(live.undo(), False)
        self.assertEqual(len(live), 0)

    def test_later_changes_have_no_effect(self):
        live = Live(home(["k: take, put s"], ["r once: read s"]))
        events = ["begin k"]
        live.several(events)
        events.append("step")
        self.assertEqual(live.events, ("begin k",))
        with self.assertRaises(TypeError):
            iter(live)

    def test_undo_one_by_one(self):
        for seed in range(30):
            rng = random.Random(seed)
            live = Live(random_design(rng))
            rows = [()]
            for _ in range(25):
                if rng.random() < 0.2:
                    live.several([rng.choice(live.can())])
                else:
                    live.do(rng.choice(live.can()))
                rows.append(live.events)
                self.assertEqual(vars(live.played), vars(play(live.design, live.events)))
                self.assertEqual(live.can(), possible(live.design, live.events))
            while rows:
                self.assertEqual((live.events, len(live)), (rows.pop(), len(rows)))
                self.assertEqual(vars(live.played), vars(play(live.design, live.events)))
                self.assertEqual(live.undo(), rows != [])

    def test_within(self):
        live = Live(home(["k: take, put s"], ["r once: read s"]))
        live.do("begin k")
        live.do("step")

        def work(inner):
            self.assertIs(inner, live)
            inner.undo()
            inner.undo()
            inner.undo()
            inner.several(["start r", "next 0"])
            return inner.events

        def fail(inner):
            inner.do("step")
            raise KeyError("x")

        self.assertEqual(live.within(work), ("start r", "next 0"))
        self.assertEqual((live.events, len(live), live.played.hand), (("begin k", "step"), 2, 1))
        with self.assertRaises(KeyError):
            live.within(work=fail)
        self.assertEqual((live.events, len(live), live.played.hand), (("begin k", "step"), 2, 1))
        self.assertIsInstance(raised(live.within, lambda inner: inner.do("begin k")), Refused)
        self.assertIsNone(live.within(lambda inner: None))
        self.assertTrue(live.undo() and live.undo())
        self.assertEqual(live.events, ())
