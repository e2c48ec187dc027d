import random
import unittest

from tests.making import checks_of, turn_design
from tests.trial import Trial
from tests.values import any_values, home, raised
from unfooled.errors import NoName, NoStep
from unfooled.turns import greatest_in, is_in, numbers_told, puts_amid, turns_amid


def amid(design, name, at):
    word = design.reader(name).texts[at].split(" ")[0]
    return (turns_amid if word == "same" else puts_amid)(design, name, at)


class Turns(unittest.TestCase):
    """Promises 37 to 39, and 40 as far as numbers hang on stands."""

    def test_the_examples(self):
        slow = home(["w: bump c, wait, bump c"], ["r once: enter, num c, num c, same 1 2, leave"], rounds="c -")
        self.assertEqual(turns_amid(slow, "r", 3), ((0, 1, 2), 3, 1, ()))
        fast = home(["w: bump c, bump c"], ["r once: num c, num c, even 0, even 1, same 0 1"], rounds="c -")
        self.assertEqual(turns_amid(fast, "r", 4), ((), 0, 2, (0,)))
        swap = home(["w: take, put s, aside, give 0"], ["r once: read s, look s, use s p"], rounds="c -")
        self.assertEqual(puts_amid(swap, "r", 1), ((), 2, 1, (0,)))

    def test_turns_that_are_known(self):
        every, none = ((), 0, 1, (0,)), ((0,), 1, 1, ())
        for kinds, reader, size, told in (
                (["k: bump c"], "num c, num c, same 0 1", "-", every),
                (["k: bump d"], "num c, num c, same 0 1", "-", none),
                (["k: bump c"], "num c, num c, num c, same 0 1, same 1 2", "-", every),
                (["k: bump c"], "num c, num c, num c, same 0 2, same 0 1", "-", none),
                (["k: bump c"], "num c, num c, num c, same 0 2, same 0 1", "4", every),
                (["k: bump c"], "num c, num c, num c, same 0 1, same 0 2", "3", every),
                (["k: bump c, bump c, bump c"], "num c, even 0, num c, even 2, same 0 2", "-", ((), 0, 2, (0,))),
                (["k: bump c, bump c, bump c"], "num c, even 0, num c, even 2, same 0 2", "3",
                 every),
                (["k: bump c, bump c, bump c, bump c"], "num c, even 0, num c, even 2, same 0 2", "3", every),
                (["k: bump c, bump c"], "num c, even 0, num c, num c, even 2, even 3, same 0 2", "2",
                 ((), 0, 2, (0,))),
                (["k: move, bump c"], "enter, num c, num c, same 1 2", "-", ((0, 1, 2), 3, 1, ())),
                (["k: bump c, move, bump c"], "enter, num c, num c, same 1 2", "-", ((0, 1, 2, 3, 4), 5, 1, ())),
                (["k: bump c, move, bump c"], "enter, num c, leave, num c, same 1 3", "-", every),
                (["k: bump c, wait, move"], "enter, num c, num c, same 1 2", "-", ((0, 1), 2, 1, ())),
                (["k: bump c, bump c, bump d", "l: bump c, bump c"], "num d, even 0, num c, num c, same 2 3",
                 "-", every),
                (["k: wait, bump c, bump c"], "enter, num c, even 1, num c, even 3, same 1 3", "-",
                 ((0, 2), 3, 1, ()))):
            design = home(kinds, ["r once: " + reader], rounds=f"c {size}, d 2")
            at = len(design.readers[0]) - 1
            self.assertEqual(turns_amid(design, "r", at), told, (kinds, reader, size))

    def test_puts_that_are_known(self):
        none, two = ((), 0, 1, ()), ((), 2, 1, (0,))
        swap = "k: take, put s, aside, give 0"
        for kinds, reader, told in (
                ([swap], "read s, look s", two),
                ([swap], "enter, read s, look s", two),
                ([swap], "read t, look t", none),
                (["k: take, put s, aside, wait, give 0"], "enter, read s, look s", none),
                (["k: take, put s, aside, wait, give 0"], "enter, read s, leave, look s", two),
                (["k: take, put s, aside, wait, give 0"], "read s, enter, look s", ((), 2, 1, (0,))),
                (["k: take, put s, aside, give 0 free"], "read s, mark h s, look s", two),
                (["k: take, put s, aside, give 0 free"], "read s, mark h s, look s, look s", two),
                (["k: take, put s, aside, move, give 1"], "enter, read s, look s", ((2,), 3, 1, ())),
                (["k: take, put s, aside, move, give 2"], "enter, read s, look s", none),
                (["k: take, put s, take, put s, aside, give 0"], "read s, look s", two),
                (["k: take, put s, take, put t, aside, give 0", "l: take, put t, aside, give 0"],
                 "read s, look s", two),
                (["k: take, put s, aside, give 0, take, put s"], "read s, look s", two)):
            design = home(kinds, ["r once: " + reader], slots="s t")
            at = len(design.readers[0]) - 1
            self.assertEqual(puts_amid(design, "r", at), told, (kinds, reader))
            self.assertEqual(puts_amid(design.with_reuse("never"), "r", at), none)

    def test_against_trying(self):
        """What comes about along random ways is told; what is told and small comes about."""
        found = set()
        for seed in range(60):
            rng = random.Random(seed)
            design = turn_design(rng)
            for at, _ in checks_of(design.readers[0]):
                told, trial, seen = amid(design, "r", at), Trial(design, at), set()
                wanted = {number for number in range(3) if is_in(told, number)}
                for number in range(2000):
                    seen |= trial.walk(rng, 45)
                    if number >= 60 and wanted <= seen:
                        break
                self.assertTrue(all(is_in(told, number) for number in seen), (str(design), at, seen))
                self.assertLessEqual(wanted, seen, (str(design), at, told))
                found.add(told[1:3])
        self.assertGreater(len(found), 4)

    def test_quadruples(self):
        for seed in range(300):
            rng = random.Random(seed)
            tail, period = rng.randint(0, 9), rng.randint(1, 8)
            some = [rng.randint(0, 12) for _ in range(rng.randint(0, 8))]
            rests = [rng.randrange(period) for _ in range(rng.randint(0, period))]
            told = numbers_told(some, tail, period, tuple(rests))
            numbers = [number for number in range(90) if number in some and number < tail
                       or number >= tail and (number - tail) % period in rests]
            self.assertEqual([number for number in range(90) if is_in(told, number)], numbers)
            infinite = bool(rests)
            self.assertEqual(greatest_in(told), None if infinite or not numbers else numbers[-1])
            # As small as can be: the period first, then the tail.
            right = [(other, least) for other in range(1, 10) for least in range(0, 12)
                     if all((number in numbers) == (number + other in numbers)
                            for number in range(least, 80 - other))]
            self.assertEqual((told[2], told[1]), min(right))
            self.assertEqual(told[0], tuple(number for number in numbers if number < told[1]))
            self.assertEqual(told[3], tuple(rest for rest in range(told[2]) if told[1] + rest in numbers))
            # One quadruple, also from greater tails and periods.
            many = rng.randint(1, 3)
            self.assertEqual(numbers_told(numbers, tail + 5, period * many, [
                rest for rest in range(period * many) if tail + 5 + rest in numbers]), told)
        self.assertEqual(numbers_told((), 7, 5, ()), ((), 0, 1, ()))
        self.assertEqual(numbers_told([3, 3, 1], 7, 5, []), ((1, 3), 4, 1, ()))
        self.assertEqual((greatest_in(told=((1, 3), 4, 1, ())), is_in(told=((), 0, 2, (0,)), number=4)), (3, True))
        self.assertEqual(numbers_told(some=[], tail=3, period=1, rests=[0]), ((), 3, 1, (0,)))

    def test_errors(self):
        design = home(["k: bump c"], ["r once: num c, num c, same 0 1, read s, look s"], rounds="c -")
        for value in any_values():
            for work, right in ((turns_amid, 2), (puts_amid, 4)):
                if value != "r":
                    error = raised(work, design, value, value)
                    self.assertEqual(error.__class__, NoName)
                    self.assertIs(error.name, value)
                error = raised(work, design, "r", value)
                if not (isinstance(value, int) and value is not True and value == right):
                    self.assertEqual(error.__class__, NoStep)
                    self.assertIs(error.at, value)
        self.assertEqual(raised(turns_amid, design, "r", 4).__class__, NoStep)
        self.assertEqual(raised(puts_amid, design, "r", 2).__class__, NoStep)
        self.assertEqual(turns_amid(at=2, name="r", design=design), ((), 0, 1, (0,)))
        self.assertEqual(puts_amid(at=4, name="r", design=design), ((), 0, 1, ()))
