import random
import unittest

from tests.making import random_design
from tests.values import any_values, home, raised
from unfooled.errors import NoName
from unfooled.faces import joint, safe_face, whole_face
from unfooled.faults import faults_of
from unfooled.kinds import Kind


class Faces(unittest.TestCase):
    """Promise 27."""

    def test_the_example(self):
        hasty = home(["swap: take, write p, put s, aside, give 0"],
                     ["bare once: read s, use s p", "two once: read s, use s p, use s p"])
        self.assertEqual(joint(hasty, "bare"), ())
        self.assertEqual(str(safe_face(hasty)), str(hasty).replace("parts p", "parts p zz")
                         .replace("use s p", "use s zz"))
        self.assertEqual(str(whole_face(hasty)), str(hasty).replace("any", "never"))

    def test_faces_have_all_else(self):
        design = home(["k: take, write p, put t, bump c"], ["r again: num c, read s, use s p, even 0"],
                      slots="s t", parts="p q", rounds="c 4", wide="s 2", rooms="1 0")
        safe = str(design).replace("parts p q", "parts p q zz").replace("use s p", "use s zz")
        self.assertEqual(str(safe_face(design=design)), safe)
        self.assertEqual(whole_face(design=design), design.with_reuse("never"))

    def test_what_happens_in_the_faces(self):
        seen = set()
        for seed in range(150):
            design = random_design(random.Random(seed), most_steps=5, reader_steps=5)
            for reader in design.readers:
                name = reader.name
                here = set(faults_of(design, name))
                safe = set(faults_of(safe_face(design), name))
                whole = set(faults_of(whole_face(design), name))
                for harm in ("used", "fooled"):
                    self.assertEqual(harm in here, harm in safe, (seed, name))
                for harm in ("torn", "early"):
                    self.assertTrue(harm in here or harm not in whole, (seed, name))
                    if "fooled" not in here and "used" not in here:
                        self.assertEqual(harm in here, harm in whole, (seed, name))
                told = joint(design, name)
                clear = "used" not in safe and not whole & {"early", "torn"}
                mine = tuple(sorted(here & {"early", "torn", "used"}))
                self.assertEqual(told, mine if clear else ())
                self.assertEqual(not mine, clear and told == ())
                if clear and "fooled" not in here:
                    self.assertEqual(told, ())
                seen.add((clear, bool(told), "used" in here))
        self.assertGreaterEqual(len(seen), 3)

    def test_a_joint(self):
        """What happens by a fooled look alone: neither face has it."""
        design = home(["k: aside, wait, give 0, take, put s", "l: over t p"],
                      ["r once: enter, read s, use s p, leave, read t, use t p, look s"], slots="s t")
        self.assertEqual((faults_of(design, "r"), faults_of(safe_face(design), "r"),
                          faults_of(whole_face(design), "r")), (("fooled", "torn"), ("fooled",), ()))
        self.assertEqual(joint(design, "r"), ("torn",))
        # As soon as a face has one of the three, there is no joint.
        early = design.with_kind(Kind.read("kind l: over t p, fence"))
        self.assertEqual((faults_of(early, "r"), faults_of(whole_face(early), "r"), joint(early, "r")),
                         (("early", "fooled", "torn"), ("early",), ()))

    def test_errors(self):
        design = home(["k: take, put s"], ["r once: read s"])
        for value in any_values():
            if value != "r":
                error = raised(joint, design, value)
                self.assertEqual(error.__class__, NoName)
                self.assertIs(error.name, value)
        self.assertEqual(joint(name="r", design=design), ())
