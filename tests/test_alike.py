import random
import unittest
from itertools import permutations, product

from tests.values import any_values, raised
from unfooled.alike import (accepts_same, asks, idle, no_later, parting_answers, reason,
                            reason_holds, refusing_answers, soonest, trimmed)
from unfooled.errors import LookError, NoStep
from unfooled.readers import Reader


def random_script(rng, plain):
    """Some asks, and checks put in at random places behind what they name."""
    reader = Reader("r", plain, rng.choice(["once", "again"]))
    for _ in range(rng.randint(0, 6)):
        at = rng.randint(0, len(reader))
        nums = [k for k, text in enumerate(reader.texts[:at]) if text.startswith("num")]
        if not nums:
            continue
        text = f"even {rng.choice(nums)}"
        if len(nums) > 1 and rng.random() < 0.7:
            text = "same {} {}".format(*sorted(rng.sample(nums, 2)))
        try:
            reader = reader.with_more(at, text)
        except LookError:
            pass
    return reader


def random_asks(rng):
    plain = [rng.choice(["num c", "num c", "num d", "enter"]) for _ in range(rng.randint(2, 5))]
    while len([text for text in plain if text.startswith("num")]) > 4:
        plain.remove("num c")
    return plain


def checks(reader):
    return [at for at, text in enumerate(reader.texts) if text.split(" ")[0] in ("same", "even")]


def says(reader, at, answers):
    nums = [k for k, text in enumerate(reader.texts) if text.startswith("num")]
    told = dict(zip(nums, answers))
    numbers = [told[int(word)] for word in reader.texts[at].split(" ")[1:]]
    return numbers[0] % 2 == 0 if len(numbers) == 1 else numbers[0] == numbers[1]


def all_answers(reader):
    many = len([text for text in reader.texts if text.startswith("num")])
    return list(product(range(2 * many), repeat=many))


def accepts(reader, answers):
    return all(says(reader, at, answers) for at in checks(reader))


def asked(reader, answers):
    """How many steps are asked when a check first says no; a great number if none does."""
    for at in checks(reader):
        if not says(reader, at, answers):
            return len([text for text in reader.texts[:at]
                        if text.split(" ")[0] not in ("same", "even")])
    return 99


class Checks(unittest.TestCase):
    """Promise 10."""

    def test_the_example(self):
        late = Reader("r", ["num c", "read s", "use s p", "num c", "same 0 3", "even 0", "even 3"])
        self.assertEqual((idle(late), reason(late, 6), refusing_answers(late, 5) is None,
                          str(soonest(late)), no_later(late, soonest(late))),
                         ((6,), (4, 5), False,
                          "reader r once: num c, even 0, read s, use s p, num c, same 0 4", False))
        self.assertEqual(asks(late), ("num c", "read s", "use s p", "num c"))
        self.assertTrue(no_later(soonest(late), late))

    def test_by_trying_all_numbers(self):
        for seed in range(150):
            rng = random.Random(seed)
            reader = random_script(rng, random_asks(rng))
            rows = all_answers(reader)
            idle_ones = []
            for at in checks(reader):
                ahead = [k for k in checks(reader) if k < at]
                good = [row for row in rows if all(says(reader, k, row) for k in ahead)]
                is_idle = all(says(reader, at, row) for row in good)
                if is_idle:
                    idle_ones.append(at)
                self.check_reason(reader, at, ahead, rows, is_idle)
                answers = refusing_answers(reader, at)
                self.assertEqual(answers is None, is_idle)
                if answers is not None:
                    self.assertIsInstance(answers, tuple)
                    self.assertTrue(all(says(reader, k, answers) for k in ahead))
                    self.assertFalse(says(reader, at, answers))
            self.assertEqual(idle(reader), tuple(idle_ones))

    def check_reason(self, reader, at, ahead, rows, is_idle):
        told = reason(reader, at)
        self.assertEqual(told is not None, is_idle)
        least = None
        for many in range(len(ahead) + 1):
            for lot in permutations(ahead, many):
                if list(lot) != sorted(lot):
                    continue
                holds = all(says(reader, at, row) for row in rows
                            if all(says(reader, k, row) for k in lot))
                self.assertEqual(reason_holds(reader, at, lot), holds)
                self.assertEqual(reason_holds(reader, at, lot[::-1] + lot), holds)
                if holds and least is None:
                    least = many
        if is_idle:
            self.assertIsInstance(told, tuple)
            self.assertEqual(len(told), least)
            self.assertTrue(reason_holds(reader, at, told))

    def test_any_values(self):
        reader = Reader("r", ["num c", "num c", "even 0", "same 0 1", "even 1"])
        for value in any_values():
            holds = value in ((2, 3), (3, 2)) and isinstance(value, tuple)
            self.assertIs(reason_holds(reader, 4, value), holds, value)
            if isinstance(value, bool) or value not in (2, 3, 4):
                for work in (reason, refusing_answers):
                    error = raised(work, reader, value)
                    self.assertEqual(error.__class__, NoStep, value)
                    self.assertIs(error.at, value)
                self.assertIs(raised(reason_holds, reader, value, value).at, value)
        for value in ([2, 3], (2,), (3,), (2, 3, 4), (2, 3, 0), (2, 3, True), (2, 3, None), (),
                      (2, (3,)), (2, 3, -1), (2, 3, 99), ("2", 3)):
            self.assertIs(reason_holds(reader, 4, value), False)
        self.assertIs(reason_holds(value=(3, 2, 2), at=4, reader=reader), True)
        for at in (0, 1, 5, 99):
            self.assertEqual(raised(reason, reader, at).at, at)
        self.assertIsNone(reason(reader=reader, at=3))

    def test_looks_are_asks(self):
        reader = Reader("r", ["num c", "read s", "look s", "even 0"])
        self.assertEqual(asks(reader=reader), ("num c", "read s", "look s"))
        self.assertEqual(raised(reason, reader, 2).__class__, NoStep)

    def test_counters_have_no_round_here(self):
        reader = Reader("r", ["num c", "num c", "same 0 1", "same 0 1"])
        self.assertEqual((idle(reader), reason(reader, 3)), ((3,), (2,)))


class Alike(unittest.TestCase):
    """Promises 11 and 12."""

    def test_pairs_by_trying_all_numbers(self):
        alike = 0
        for seed in range(300):
            rng = random.Random(seed)
            plain = random_asks(rng)
            one, other = random_script(rng, plain), random_script(rng, plain)
            if rng.random() < 0.4:
                other = rng.choice([trimmed, soonest])(one)
            rows = all_answers(one)
            self.assertEqual(asks(one), asks(other))
            same = all(accepts(one, row) == accepts(other, row) for row in rows)
            alike += same
            self.assertIs(accepts_same(one, other), same)
            self.assertIs(no_later(one, other), same and all(
                asked(one, row) <= asked(other, row) for row in rows))
            answers = parting_answers(one, other)
            self.assertEqual(answers is None, same)
            if answers is not None:
                self.assertNotEqual(accepts(one, answers), accepts(other, answers))
        self.assertGreater(alike, 50)

    def test_unlike_asks(self):
        one, other = Reader("r", ["num c", "even 0"]), Reader("r", ["num c", "num c", "even 0"])
        self.assertIs(accepts_same(one, other), False)
        self.assertIsNone(parting_answers(one, other))
        self.assertIs(no_later(one=one, other=other), False)
        bare = Reader("n", ["num c"], "again")
        self.assertIs(accepts_same(one=bare, other=bare.with_word("once")), True)
        self.assertEqual(parting_answers(one=one, other=bare)[0] % 2, 1)

    def test_trimmed_and_soonest(self):
        for seed in range(150):
            rng = random.Random(seed)
            plain = random_asks(rng)
            reader, other = random_script(rng, plain), random_script(rng, plain)
            short, soon = trimmed(reader), soonest(reader)
            self.assertEqual((short.name, short.word, soon.name, soon.word),
                             (reader.name, reader.word) * 2)
            self.assertTrue(accepts_same(reader, short) and accepts_same(reader, soon))
            self.assertEqual((idle(short), idle(soon)), ((), ()))
            self.assertEqual(len(short), len(reader) - len(idle(reader)))
            self.assertTrue(no_later(soon, reader) and no_later(soon, short))
            self.assertLessEqual(len(soon), len(short))
            self.assertEqual(soonest(short).texts, soon.texts)
            self.assertEqual(soonest(soon).texts, soon.texts)
            if accepts_same(reader, other):
                self.assertEqual(soonest(other).texts, soon.texts)

    def test_the_steps_of_soonest(self):
        reader = Reader("r", ["num c", "num d", "num c", "num c", "same 0 2", "same 2 3", "even 3",
                              "enter"])
        self.assertEqual(soonest(reader=reader).texts,
                         ("num c", "even 0", "num d", "num c", "same 0 3", "num c", "same 0 5",
                          "enter"))
        self.assertEqual(trimmed(reader=reader), reader)
        self.assertEqual(trimmed(Reader("r", ["num c", "even 0", "even 0", "num c", "same 0 3",
                                              "even 3", "even 0"])).texts,
                         ("num c", "even 0", "num c", "same 0 2"))
        self.assertEqual(idle(Reader("r", ["enter"])), ())
