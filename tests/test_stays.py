import random
import unittest

from tests.making import random_reader
from tests.test_heaps import AGES, heap_design
from tests.values import any_values, home, raised
from unfooled.designs import Design
from unfooled.errors import NoName
from unfooled.heaps import growth, growing, heap, soonest_back
from unfooled.kinds import Kind
from unfooled.scene import Scene, event_words
from unfooled.stays import all_stays, easy, heap_by, kept, shown, stay

READING = ["read", "use", "look", "mark", "mark", "clear", "enter", "leave", "fence"]
MARKING = ["read", "look", "mark", "mark", "clear", "use", "mark"]


def stays_design(rng):
    design = heap_design(rng)
    readers = [random_reader(rng, name, design.slots, ["p"], [], READING, 7) for name in "rn"]
    return Design(design.slots, ["p"], design.kinds, readers, rooms=(rng.choice([0, 1, 2]), 0),
                  reuse=design.reuse)


def staying(design, name, at):
    """The scene in which a reader has done so many steps, all its stores done."""
    scene = Scene(design)
    scene.do(event_words(design, "start " + name))
    while scene.guests[0].done < at or scene.guests[0].buffer:
        guest = scene.guests[0]
        scene.do(event_words(design, "drain 0" if guest.buffer else "next 0"))
        if at == len(design.reader(name)) and scene.runs:
            at = 0
    return scene


def heap_of(scene):
    house = scene.house
    return (house.hand is not None) + len(house.out) + len(house.pile)


def update(design, scene, name):
    """Do a whole update, if it does not come to wait for ever: whether it does not."""
    scene.do(event_words(design, "begin " + name))
    while scene.house.script is not None:
        if not scene.may(["step"]):
            return False
        scene.do(["step"])
    return True


class Stays(unittest.TestCase):
    """Promises 51 to 53."""

    def test_the_example(self):
        marks = home(["swap: take, put s, aside, give 0 free"],
                     ["m once: read s, mark h s, look s, use s p, clear h"])
        self.assertEqual((all_stays(AGES, "r"), shown(marks, "m", 2), easy(marks), kept(marks, "m"),
                          heap_by(marks, 3), soonest_back(marks, "s")),
                         (((), ("heap",), ("heap",), ("heap",), ()), (False, (("h", "s"),)), ("m",), 1, 4, 2))
        self.assertEqual(stay(AGES.with_kind(Kind.read("kind swap: take, put s, aside, move, give 2")), "r", 1),
                         ("wait",))

    def test_words_that_are_known(self):
        for kinds, told in (
                (["k: take, put s, aside, give 0"], ((), (), ())),
                (["k: take, put s"], (("heap",), ("heap",), ("heap",))),
                (["k: take, put s, aside, try, give 1"], ((), ("heap",), ())),
                (["k: take, put s, aside, try, give 0"], ((), (), ())),
                (["k: take, put s, wait"], (("heap",), ("wait",), ("heap",))),
                (["k: take, put s, wait", "l: take, put s"], (("heap",), ("heap", "wait"), ("heap",))),
                (["k: take, put s, aside, give 0, wait"], ((), ("wait",), ())),
                (["k: take, put s, aside, try, give 1", "l: move"], ((), ("heap", "wait"), ())),
                (["k: try"], ((), (), ()))):
            design = home(kinds, ["r once: enter, leave"])
            self.assertEqual(all_stays(design, "r"), told, kinds)
            self.assertEqual([stay(design, "r", at) for at in range(3)], list(told))
            self.assertEqual(easy(design), ("r",) if set(told) == {()} else ())

    def test_shown_on_the_stage(self):
        for seed in range(150):
            design = stays_design(random.Random(seed))
            for reader in design.readers:
                for at in range(len(reader) + 1):
                    guest = staying(design, reader.name, at).guests[0]
                    told = shown(design, reader.name, at)
                    self.assertEqual((told[0], [mark for mark, _ in told[1]]),
                                     (guest.shown is not None, sorted(guest.marks)))
                    for mark, slot in told[1]:
                        # Nothing was put: each slot has the cell of its number yet.
                        self.assertEqual(guest.marks[mark], design.slots.index(slot))

    def test_words_on_the_stage(self):
        met = set()
        for seed in range(150):
            design = stays_design(random.Random(seed))
            for reader in design.readers:
                row = all_stays(design, reader.name)
                self.assertEqual(len(row), len(reader) + 1)
                for at, words in enumerate(row):
                    self.assertEqual(stay(design, reader.name, at), words)
                    if at == len(reader) and reader.texts[-1].split(" ")[0] == "look":
                        continue
                    self.assertEqual(self.words_played(design, reader.name, at), words, (str(design), at))
                    met.add(words)
            names = [reader.name for reader in design.readers if set(all_stays(design, reader.name)) == {()}]
            self.assertEqual(easy(design), tuple(sorted(names)))
        self.assertEqual(met, {(), ("heap",), ("wait",), ("heap", "wait")})

    def words_played(self, design, name, at):
        """Does some row of updates of one kind come to wait, or let the heap grow and grow?"""
        found = set()
        for kind in design.kinds:
            scene, sizes = staying(design, name, at), []
            for _ in range(24):
                if not update(design, scene, kind.name):
                    found.add("wait")
                    break
                sizes.append(heap_of(scene))
            # Marks keep a few cells, and no more: look from where these are kept.
            if len(sizes) == 24 and sizes[23] >= sizes[15] + 8:
                found.add("heap")
        return tuple(sorted(found))

    def test_cells_that_are_kept(self):
        put = "k: take, put s, aside, give 0 free"
        two = "k: take, put s, take, put t, aside, give 0 free"
        for kind, reader, told in (
                (put, "read s, mark h s", 1), (put, "read s, mark h s, mark i s", 2),
                (put, "read s, mark h s, clear h", 1), (put, "read s, mark h s, mark i s, clear h, clear i", 1),
                (put, "read s, mark h s, look s, mark i s", 2), (put, "read t, mark h t, mark i t", 0),
                (put, "read s, mark h s, look s, mark i s, clear h, clear i", 1),
                (put, "read s, mark h s, look s, mark i s, look s, clear h, clear i", 2),
                (put, "read t, read s, mark h s, mark i s, look t, clear h, clear i", 1),
                (put, "read t, read s, mark h s, look t, mark i s, clear h, clear i", 1),
                (two, "read t, read s, mark h s, mark i s, look t, clear h, clear i", 2),
                (two, "read t, read s, mark h t, mark i s, look t, clear i, look t, mark i t", 2),
                (put, "read s, read t, mark h s, mark h t", 1), (two, "read s, read t, mark h s, mark i t", 2),
                (two, "read s, read t, mark h s, mark i t, mark j t", 3),
                (two, "read s, read t, mark h s, look s, mark i t, look s, mark j t, clear h", 3),
                (put, "read s, clear h", 0), (put, "read s, look s, use s p", 0)):
            design = home([kind], ["r again: " + reader], slots="s t")
            self.assertEqual(kept(design, "r"), told, (kind, reader))
            self.assertEqual([heap_by(design, many) for many in range(4)],
                             [heap(design) + many * told for many in range(4)])
            self.assertEqual(easy(design), ("r",))

    def test_kept_on_the_stage(self):
        """Random ways never keep more, and some keep as many."""
        reached = total = 0
        for seed in range(40):
            rng = random.Random(seed)
            slots = ["s", "t"][:rng.choice([1, 2])]
            kinds = [Kind("k", ["take", f"put {rng.choice(slots)}", "aside", "give 0 free"])]
            reader = random_reader(rng, "r", slots, ["p"], [], MARKING, 8)
            design = Design(slots, ["p"], kinds, [reader], rooms=(rng.choice([0, 1]), 0))
            told, most, heaps = kept(design, "r"), 0, 0
            for _ in range(40):
                scene = Scene(design)
                scene.do(event_words(design, "start r"))
                for _ in range(60):
                    texts = ["step"] * 3 + ["begin k", "next 0", "drain 0", "drain 0"]
                    texts = [text for text in texts if scene.may(event_words(design, text))]
                    scene.do(event_words(design, rng.choice(texts)))
                    house = scene.house
                    out = {cell for cell in scene.guests[0].marks.values() if cell not in house.hung.values()}
                    most, heaps = max(most, len(out)), max(heaps, heap_of(scene))
            self.assertLessEqual(most, told, str(design))
            self.assertLessEqual(heaps, heap_by(design, 1), str(design))
            reached += most == told
            total += 1
        self.assertGreater(reached * 10, total * 8)

    def test_heaps_by_many(self):
        grows = home(["k: take, put s"], ["m once: read s, mark h s"])
        self.assertEqual((growing(grows), growth(grows, "k"), heap_by(grows, 0), heap_by(grows, 2)),
                         (("k",), 1, None, None))
        design = home(["k: take, put s, aside, move, give 1 free"],
                      ["n once: read s", "m once: read s, mark h s, mark i s", "o once: read s, mark h s"])
        self.assertEqual([heap_by(design, many) for many in (0, 1, 5)], [1, 3, 11])
        # Readers who mark, one behind another, keep one cell more each.
        scene = Scene(design)
        for number in range(5):
            for text in ("start m", f"next {number}", f"next {number}"):
                scene.do(event_words(design, text))
            self.assertTrue(update(design, scene, "k"))
        self.assertEqual(heap_of(scene), 5)

    def test_errors(self):
        design = home(["k: take, put s"], ["r once: enter, leave"])
        for value in any_values():
            if value != "r":
                for error in (raised(shown, design, value, 0), raised(stay, design, value, 0),
                              raised(all_stays, design, value), raised(kept, design, value)):
                    self.assertEqual(error.__class__, NoName)
                    self.assertIs(error.name, value)
        self.assertEqual((shown(at=1, name="r", design=design), stay(at=1, name="r", design=design)),
                         ((True, ()), ("heap",)))
        self.assertEqual((kept(name="r", design=design), heap_by(many=1, design=design)), (0, None))
        self.assertEqual((all_stays(name="r", design=design), easy(design=design)), ((("heap",),) * 3, ()))
