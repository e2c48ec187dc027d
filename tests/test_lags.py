import random
import unittest

from tests.making import random_design, random_events
from tests.test_faults import helped_design, overs_design
from tests.values import any_values, home, raised
from unfooled.errors import NoName
from unfooled.lags import lag, lag_road
from unfooled.moments import lags_of
from unfooled.stage import play
from unfooled.watched import beginning, led_on


def great(told):
    return {"endless": 99, None: -1}.get(told, told)


class Lags(unittest.TestCase):
    """Promises 34 to 36."""

    def test_the_example(self):
        made = home(["set: take, write p, write q, put s", "pair: over s p, over s q"],
                    ["see once: read s, use s p, use s q", "left once: read s, use s p"],
                    parts="p q", reuse="never")
        self.assertEqual((lag(made, "see"), lags_of(made, lag_road(made, "see", 2))[-1][1] > 1),
                         ("endless", True))

    def test_lags_that_are_known(self):
        swap = "k: take, write p, put s, aside, wait, give 0"
        late = "k: take, write p, wait, put s"
        for kind, reader, told in (
                # Who is there as an update waits is left behind by none; else by one alone.
                (swap, "r once: enter, read s, use s p, leave", 0),
                (late, "r once: enter, read s, use s p, leave", 1),
                (late, "r again: enter, read s, use s p, use s p, num c", 1),
                (late + ", wait", "r once: enter, read s, use s p, leave", 0),
                ("k: take, put s, move", "r once: enter, read s, num c, use s p", 1),
                ("k: take, put s, aside, move, move, give 2", "r once: enter, read s, use s p", 0),
                ("k: take, put s, aside, try, give 2", "r once: enter, read s, use s p, leave", "endless"),
                (swap, "r once: read s, use s p, look s", "endless"),
                (swap, "r once: enter, read s, use s p, look s, leave", 0),
                (swap, "r once: enter, read s, leave", 0),
                ("k: over s p", "r once: read s, use s p, use s p", 0),
                ("k: over s p", "r once: read s, use s p, read t, use t p", "endless"),
                ("k: over s p, wait, over s p", "r once: enter, read s, use s p, num c", 0),
                ("k: bump c, over s p", "r once: num c, even 0, read s, use s p, num c, even 4", "endless"),
                # The number comes round.
                ("k: bump c, over s p", "r once: num c, read s, use s p, num c, same 0 3", "endless"),
                ("k: bump d, over s p", "r once: num d, read s, use s p, num d, same 0 3", 1),
                ("k: over s p, bump d", "r once: num d, read s, use s p, num d, same 0 3", 0),
                # What it does behind its last look at the world counts no more.
                ("k: over s p", "r once: read s, use s p, leave, fence, clear h", 0),
                ("k: over s p", "r once: read s, use s p, leave, num c", "endless"),
                ("k: over s p", "r once: fence, leave", 0),
                ("k: fence", "r once: read s, use s p", 0)):
            design = home([kind], [reader], slots="s t", rounds="c 2, d -")
            self.assertEqual(lag(design, "r"), told, (kind, reader))
            self.check_roads(design, "r")
        two = home(["k: wait, take, put s", "l: move"], ["r once: enter, read s, use s p"])
        self.assertEqual(lag(two, "r"), 2)
        self.check_roads(two, "r")

    def check_roads(self, design, name):
        told = lag(design, name)
        for many in (0, 1, 2, 3, 6):
            events = lag_road(design, name, many)
            self.assertEqual(events is not None, many <= great(told), (str(design), many))
            if events is None:
                continue
            self.assertIsInstance(events, tuple)
            seen, before = play(design, events), play(design, events[:-1])
            self.assertEqual((len(seen.runs), seen.runs[-1][0], seen.readers[0][0]),
                             (len(before.runs) + 1, 0, name))
            self.assertEqual(events[-1], "next 0")
            number, reached = lags_of(design, events)[-1]
            self.assertEqual(number, len(seen.runs) - 1)
            self.assertGreaterEqual(reached, many)

    def test_roads(self):
        found = set()
        for seed in range(130):
            rng = random.Random(seed)
            design = overs_design(rng) if seed % 3 == 0 else random_design(rng, 5, 5)
            for reader in design.readers:
                self.check_roads(design, reader.name)
                found.add(lag(design, reader.name))
        self.assertLessEqual({0, "endless"}, found)

    def test_roads_with_helpers(self):
        for seed in range(6):
            design = helped_design(random.Random(seed), seed % 3 == 0)
            self.check_roads(design, design.readers[0].name)

    def by_standings(self, design, name, cap):
        """The greatest lag, at most `cap`, by all that led_on tells ([36])."""
        texts = design.reader(name).texts
        last = max([-1] + [at for at, text in enumerate(texts) if text.split(" ")[0] in ("use", "look", "num")])
        rows, rowed, found = [(beginning(design, name), 0)], {}, None
        known = {rows[0]}
        for standing, so_far in rows:
            if standing not in rowed:
                rowed[standing] = led_on(design, name, standing)
            for _, behind, harms, words in rowed[standing]:
                if ("accepted" in words and standing[5][5] == "fine" and "torn" not in harms
                        and "used" not in harms):
                    found = max(found or 0, so_far)
                counts = standing[5][0] <= last and "over" in words and (so_far or "gone" in words)
                after = 0 if "again" in words else min(cap, so_far + 1) if counts else so_far
                if behind is not None and (behind, after) not in known:
                    known.add((behind, after))
                    rows.append((behind, after))
        return found

    def test_lags_by_standings(self):
        found = set()
        for seed in range(200):
            rng = random.Random(seed)
            design = overs_design(rng) if seed % 5 == 0 else random_design(rng, 6, 5)
            if seed % 5 == 1:
                design = random_design(rng, 5, 5, "ages")
            for reader in design.readers:
                told = lag(design, reader.name)
                self.assertEqual(self.by_standings(design, reader.name, 4), min(4, great(told)), str(design))
                found.add(told)
        self.assertLessEqual({0, "endless"}, found)
        self.assertTrue({1, 2} & found)

    def test_no_lag_is_left_out(self):
        """Lags of random histories are never greater than the greatest one."""
        greatest = set()
        for seed in range(60):
            rng = random.Random(seed)
            design = overs_design(rng) if seed % 3 == 0 else random_design(rng, 5, 5)
            told = {reader.name: great(lag(design, reader.name)) for reader in design.readers}
            for _ in range(25):
                events, scene = random_events(rng, design, 60)
                for number, reached in lags_of(design, events):
                    name = scene.guests[scene.runs[number][0]].script.name
                    self.assertLessEqual(reached, told[name], (str(design), events))
                    greatest.add(reached)
        self.assertLessEqual({0, 1, 2, 3}, greatest)

    def test_errors(self):
        design = home(["k: take, put s"], ["r once: read s"])
        for value in any_values():
            if value != "r":
                for error in (raised(lag, design, value), raised(lag_road, design, value, 1)):
                    self.assertEqual(error.__class__, NoName)
                    self.assertIs(error.name, value)
        self.assertEqual((lag(name="r", design=design), lag_road(many=1, name="r", design=design)), (0, None))
