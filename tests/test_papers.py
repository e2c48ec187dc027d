import random
import unittest

from tests.making import random_design
from tests.values import any_values, home, raised
from unfooled.designs import Design
from unfooled.errors import InvalidHarm, NoName
from unfooled.faults import faults_of, fewest
from unfooled.kinds import Kind
from unfooled.papers import certificate, certifies, is_standing
from unfooled.readers import Reader
from unfooled.watched import beginning, led_on

HARMS = ("early", "fooled", "torn", "used")


def with_bools(value):
    """The same value, but one of its numbers 0 or 1 told as a bool; None if there is none."""
    for at, one in enumerate(value):
        if isinstance(one, tuple):
            changed = with_bools(one)
            if changed is not None:
                return (*value[:at], changed, *value[at + 1:])
        elif isinstance(one, int) and not isinstance(one, bool) and one in (0, 1):
            return (*value[:at], bool(one), *value[at + 1:])
    return None


def with_numbers(value):
    """The same value, but one of its bools told as a number."""
    for at, one in enumerate(value):
        if isinstance(one, tuple):
            changed = with_numbers(one)
            if changed is not None:
                return (*value[:at], changed, *value[at + 1:])
        elif isinstance(one, bool):
            return (*value[:at], int(one), *value[at + 1:])
    return None


def come_about(design, name):
    """All standings that come about, by led_on alone."""
    found = [beginning(design, name)]
    known = set(found)
    for standing in found:
        for row in led_on(design, name, standing):
            if row[1] is not None and row[1] not in known:
                known.add(row[1])
                found.append(row[1])
    return found


class Papers(unittest.TestCase):
    """Promise 26."""

    def test_the_example(self):
        swap = Kind("swap", ["take", "write p", "put s", "aside", "give 0"])
        bare, twice = Reader("bare", ["read s", "use s p"]), Reader("two", ["read s", "use s p", "use s p"])
        hasty = Design(["s"], ["p"], [swap], [bare, twice])
        self.assertEqual((faults_of(hasty, "bare"), faults_of(hasty.with_reuse("never"), "two"),
                          fewest(hasty, "bare", "used")), (("early", "used"), ("early", "used"), 1))
        paper = certificate(hasty, "bare", "torn")
        self.assertEqual((certifies(hasty, "bare", "torn", paper), certificate(hasty, "bare", "used")),
                         (True, None))

    def test_just_where_a_harm_does_not_happen(self):
        told = 0
        for seed in range(60):
            design = random_design(random.Random(seed), reader_steps=5)
            for reader in design.readers:
                harms = faults_of(design, reader.name)
                standings = come_about(design, reader.name)
                for harm in HARMS:
                    paper = certificate(design, reader.name, harm)
                    self.assertEqual(paper is None, harm in harms)
                    self.assertIs(certifies(design, reader.name, harm, tuple(standings)), harm not in harms)
                    if paper is not None:
                        told += 1
                        self.assertIsInstance(paper, tuple)
                        self.assertEqual(set(paper), set(standings))
        self.assertGreater(told, 50)

    def test_papers_that_are_changed(self):
        for seed in range(20):
            rng = random.Random(seed)
            design = random_design(rng, most_steps=4, reader_steps=4)
            name = rng.choice(design.readers).name
            harms = [harm for harm in HARMS if certificate(design, name, harm) is not None]
            if not harms:
                continue
            harm = rng.choice(harms)
            paper = certificate(design, name, harm)
            mixed = list(paper) + rng.choices(paper, k=3)
            rng.shuffle(mixed)
            self.assertIs(certifies(design, name, harm, tuple(mixed)), True)
            at = rng.randrange(len(paper))
            odd = with_bools(paper[at]), with_numbers(paper[at])
            for wrong in (paper[:at] + paper[at + 1:], paper + (0,), paper + (None,), list(paper),
                          paper + (paper,), paper[:at] + (list(paper[at]),) + paper[at + 1:],
                          paper[:at] + odd[:1] + paper[at + 1:], paper + odd[1:],
                          paper + ((("zz", 0, "none", (), (), False, False), *paper[at][1:]),),
                          (), (paper,), 0, None):
                self.assertIs(certifies(design, name, harm, wrong), False)
            for value in any_values():
                self.assertIs(certifies(design, name, harm, value), False)
                self.assertIs(certifies(design, name, harm, paper + (value,)), False)

    def test_standings(self):
        for seed in range(12):
            rng = random.Random(seed)
            design = random_design(rng, most_steps=4, reader_steps=4)
            name = rng.choice(design.readers).name
            standings = come_about(design, name)
            for standing in rng.sample(standings, min(6, len(standings))):
                self.assertIs(is_standing(design, name, standing), True)
                for wrong in (list(standing), standing[:5], (standing,), with_bools(standing),
                              with_numbers(standing), standing + ((),),
                              (*standing[:3], (7,), *standing[4:])):
                    self.assertIs(is_standing(design, name, wrong), False)
            for value in any_values():
                self.assertIs(is_standing(design, name, value), False)
        design = home(["k: take, put s"], ["r once: read s, use s p"])
        # Well formed, but it never comes about: a cell out that the reader has not read.
        first = beginning(design, "r")
        self.assertIs(is_standing(design, "r", (first[0], ("out",), *first[2:])), False)

    def test_errors(self):
        design = home(["k: take, put s"], ["r once: read s"])
        paper = certificate(design, "r", "used")
        for value in any_values() + ["back"]:
            if value != "r":
                for error in (raised(certificate, design, value, value),
                              raised(certifies, design, value, value, paper),
                              raised(is_standing, design, value, paper[0])):
                    self.assertEqual(error.__class__, NoName)
                    self.assertIs(error.name, value)
            if value not in HARMS:
                self.assertEqual(raised(certificate, design, "r", value).__class__, InvalidHarm)
                self.assertEqual(raised(certifies, design, "r", value, paper).__class__, InvalidHarm)
        self.assertIs(certifies(design=design, name="r", harm="used", value=paper), True)
        self.assertIs(is_standing(design=design, name="r", value=paper[0]), True)
        self.assertEqual(certificate(design=design, name="r", harm="used"), paper)
