import random
import unittest

from tests.making import checks_of, is_within_limits, turn_design
from tests.values import any_values, home, raised
from unfooled.errors import NoName
from unfooled.faults import faults_of
from unfooled.rounds import (fooled_checks, is_safe_round, least_round, least_rounds, safe_rounds,
                             with_least_rounds)
from unfooled.turns import is_in, numbers_told, puts_amid, turns_amid


def random_told(rng):
    tail, period = rng.randint(0, 9), rng.randint(1, 12)
    return numbers_told([rng.randint(0, 12) for _ in range(rng.randint(0, 3))], tail, period,
                        [rng.randrange(period) for _ in range(rng.choice([0, 0, 1, 2]))])


def is_safe_by_trying(told, by):
    return not any(is_in(told, number) for number in range(by, by * 80 + 1, by))


class Rounds(unittest.TestCase):
    """Promises 44 and 45."""

    def test_the_examples(self):
        slow = home(["w: bump c, wait, bump c"], ["r once: enter, num c, num c, same 1 2, leave"], rounds="c -")
        self.assertEqual((turns_amid(slow, "r", 3), safe_rounds(turns_amid(slow, "r", 3)), least_rounds(slow)),
                         (((0, 1, 2), 3, 1, ()), ((), 3, 1, (0,)), (("c", 3),)))
        fast = home(["w: bump c, bump c"], ["r once: num c, num c, even 0, even 1, same 0 1"], rounds="c -")
        self.assertEqual((turns_amid(fast, "r", 4), least_round(turns_amid(fast, "r", 4))),
                         (((), 0, 2, (0,)), None))
        swap = home(["w: take, put s, aside, give 0"], ["r once: read s, look s, use s p"], rounds="c -")
        self.assertEqual((puts_amid(swap, "r", 1), fooled_checks(swap, "r"), least_rounds(swap)),
                         (((), 2, 1, (0,)), (1,), (("s", None),)))

    def test_safe_rounds(self):
        periods = set()
        for seed in range(400):
            rng = random.Random(seed)
            told = random_told(rng)
            safe = [by for by in range(1, 70) if is_safe_by_trying(told, by)]
            self.assertEqual([by for by in range(1, 70) if is_safe_round(told, by)], safe)
            rounds = safe_rounds(told)
            self.assertEqual([by for by in range(70) if is_in(rounds, by)], [by for by in safe if by > 1])
            self.assertEqual(numbers_told(rounds[0], *rounds[1:]), rounds)
            self.assertEqual(least_round(told), ([by for by in safe if by > 1] + [None])[0])
            periods.add(rounds[2])
        self.assertGreater(len(periods), 4)
        self.assertIs(is_safe_round(told=((), 0, 1, ()), by=1), True)
        self.assertEqual(safe_rounds(told=((), 0, 1, ())), ((), 2, 1, (0,)))
        self.assertEqual(least_round(told=((2,), 3, 1, ())), 3)

    def size(self, design, name, at):
        words = design.reader(name).texts[at].split(" ")
        if words[0] == "look":
            return dict(design.wide).get(words[1], 1)
        return dict(design.rounds)[design.reader(name).texts[int(words[1])].split(" ")[1]]

    def test_fooled_checks(self):
        """By multiples; and as the watched reader is fooled."""
        met, compared = set(), 0
        for seed in range(300):
            design = turn_design(random.Random(seed))
            reader, found = design.readers[0], []
            for at, word in checks_of(reader):
                size = self.size(design, "r", at)
                told = (turns_amid if word == "same" else puts_amid)(design, "r", at)
                if size is not None and not is_safe_by_trying(told, size):
                    found.append(at)
            self.assertEqual(fooled_checks(design, "r"), tuple(found))
            small = len(design.counters) == 1 and len(reader) < 6 and len(design.kinds) == 1
            if not small or not is_within_limits(design) or seed % 2:
                continue
            fooled = "fooled" in faults_of(design, "r")
            first = [at for at in found if "look" not in [word for other, word in checks_of(reader) if other < at]]
            compared += 1
            self.assertTrue(fooled or not first, str(design))
            self.assertTrue(found or not fooled, str(design))
            met.add(fooled)
        self.assertEqual(met, {True, False})
        self.assertGreater(compared, 25)

    def test_least_rounds(self):
        head = {"slots": "c s t", "rounds": "c -, d -"}
        for kinds, readers, told in (
                (["k: bump c, bump c, wait"], ["r once: enter, num c, num c, same 1 2"], (("c", 3),)),
                (["k: bump c, bump c, wait, bump c"], ["r once: enter, num c, num c, same 1 2"], (("c", 4),)),
                (["k: bump c, bump c, wait"], ["r once: enter, num c, even 1, num c, same 1 3"], (("c", 4),)),
                (["k: bump c, bump c, wait"], ["r once: enter, num c, num c, same 1 2", "n once: num c, even 0"],
                 (("c", 4),)),
                (["k: bump c"], ["r once: num c, num c, same 0 1"], (("c", None),)),
                (["k: bump c"], ["r once: num d, num d, same 0 1, num c"], (("d", 2),)),
                (["k: take, put s, aside, give 0"], ["r once: read t, look t"], (("t", 1),)),
                (["k: take, put c, aside, move, give 1, bump c"],
                 ["r once: enter, read c, num c, num c, same 2 3, look c"], (("c", 3), ("c", 3))),
                (["k: take, put s, aside, move, give 1"], ["r once: enter, read s, look s"], (("s", 3),)),
                (["k: take, put s"], ["r once: read s"], ())):
            design = home(kinds, readers, **head)
            self.assertEqual(least_rounds(design), told, (kinds, readers))
        # What is told hangs on the rounds that the design has, where checks stand ahead.
        reader = ["r once: num c, num c, num c, same 1 2, same 0 2"]
        self.assertEqual(least_rounds(home(["k: bump c"], reader, rounds="c -")), (("c", None),))

    def test_with_least_rounds(self):
        reader = "r once: enter, read s, num c, num c, same 2 3, look s"
        design = home(["k: take, put s, aside, move, give 1, bump c, bump d"], [reader], slots="s t",
                      rounds="c -, d 5", wide="s 2, t 4")
        self.assertEqual(least_rounds(design), (("c", 3), ("s", 3)))
        self.assertEqual(str(with_least_rounds(design)), str(design).replace("c -", "c 3").replace("s 2", "s 3"))
        calm = design.with_kind(home(["k: bump c, move"], [reader], rounds="c -").kinds[0])
        self.assertEqual(least_rounds(calm), (("c", 3), ("s", 1)))
        self.assertEqual(str(with_least_rounds(calm)), str(calm).replace("c -", "c 3").replace("s 2, t 4", "t 4"))
        self.assertEqual(fooled_checks(with_least_rounds(design), "r"), ())
        self.assertIsNone(with_least_rounds(home(["k: bump c"], ["r once: num c, num c, same 0 1"], rounds="c -")))
        # Four turns ahead of each wait: with nine and more no round is great enough.
        many = home(["k: bump c, bump c, bump c, bump c, wait"], ["r once: enter, num c, num c, same 1 2"],
                    rounds="c -")
        self.assertEqual((least_rounds(many), with_least_rounds(many).rounds), ((("c", 5),), (("c", 5),)))
        more = home(["k: bump c, bump c, bump c, bump c, wait, bump c", "l: bump c, bump c, bump c, bump c, wait"],
                    ["r once: enter, num c, num c, same 1 2"], rounds="c -")
        self.assertEqual(least_rounds(more), (("c", 6),))
        great = home(["k: bump c, bump c, bump c, bump c, move, bump c, bump c, bump c, bump c"],
                     ["r once: enter, num c, num c, same 1 2"], rounds="c -")
        self.assertEqual((least_rounds(great), with_least_rounds(great)), ((("c", 17),), None))

    def test_rounds_that_are_safe(self):
        """With the least rounds no number fools a check any more, where no check stands ahead."""
        done = 0
        for seed in range(400):
            design = turn_design(random.Random(seed))
            made, least = with_least_rounds(design), least_rounds(design)
            reader = design.readers[0]
            checks = [at for at, text in enumerate(reader.texts) if text.split(" ")[0] in ("same", "look", "even")]
            self.assertEqual(made is None, any(size is None or size > 8 for _, size in least))
            self.assertEqual(list(least), sorted(least, key=lambda pair: pair[0]))
            if made is None or len(checks) > 1:
                continue
            done += 1
            self.assertEqual(fooled_checks(made, "r"), ())
            for name, size in least:
                if size > (2 if name in design.counters else 1):
                    less = made.with_wide([(one, by - (one == name and by > 2)) for one, by in made.wide
                                           if one != name or by > 2])
                    if name in design.counters:
                        less = made.with_rounds([(one, by - 1 if one == name else by) for one, by in made.rounds])
                    self.assertEqual(fooled_checks(less, "r"), (checks[0],))
        self.assertGreater(done, 30)

    def test_errors(self):
        design = home(["k: bump c"], ["r once: num c, num c, same 0 1"], rounds="c 2")
        for value in any_values():
            if value != "r":
                error = raised(fooled_checks, design, value)
                self.assertEqual(error.__class__, NoName)
                self.assertIs(error.name, value)
        self.assertEqual(fooled_checks(name="r", design=design), (2,))
        self.assertEqual((least_rounds(design=design), with_least_rounds(design=design)), ((("c", None),), None))
