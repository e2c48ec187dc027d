import random
import unittest

from tests.making import random_design
from tests.values import any_values, raised
from unfooled.designs import Design
from unfooled.errors import InvalidDesign, InvalidKind, InvalidReader, InvalidText, NoName
from unfooled.kinds import Kind
from unfooled.readers import Reader

KIND = Kind("k", ["take", "write p", "put s", "bump c"])
MORE = Kind("l", ["over t q"])
READER = Reader("r", ["read s", "use s p", "num d"])
OTHER = Reader("o", ["enter"])
GOOD = {"slots": ["t", "s"], "parts": ("q", "p"), "kinds": [KIND, MORE], "readers": [READER, OTHER],
        "rounds": [("d", None), ("c", 4)], "wide": [("t", 2), ("s", 8)], "rooms": (1, 0),
        "reuse": "never"}
TEXT = ("slots s t\nparts p q\nrounds c 4, d -\nwide s 8, t 2\nrooms 1 0\nreuse never\n"
        "kind k: take, write p, put s, bump c\nkind l: over t q\n"
        "reader r once: read s, use s p, num d\nreader o once: enter")


def wrong(**named):
    error = raised(Design, **{**GOOD, **named})
    return error.word if isinstance(error, InvalidDesign) else error


class Designs(unittest.TestCase):
    """Promises 7 and 8."""

    def test_attributes(self):
        made = Design(**GOOD)
        self.assertEqual((made.slots, made.parts, made.kinds, made.readers),
                         (("s", "t"), ("p", "q"), (KIND, MORE), (READER, OTHER)))
        self.assertEqual((made.rounds, made.wide, made.rooms, made.reuse, made.counters),
                         ((("c", 4), ("d", None)), (("s", 8), ("t", 2)), (1, 0), "never",
                          ("c", "d")))
        plain = Design(["s"], ["p"], [Kind("k", ["aside"])], [OTHER])
        self.assertEqual((plain.rounds, plain.wide, plain.rooms, plain.reuse, plain.counters),
                         ((), (), (0, 0), "any", ()))

    def test_the_first_wrong_argument(self):
        self.assertEqual(wrong(slots=["s"]), "kinds")
        self.assertEqual(wrong(slots=["s", "s", "t"]), "slots")
        self.assertEqual(wrong(slots=[]), "slots")
        self.assertEqual(wrong(slots="st", parts="pq"), "slots")
        self.assertEqual(wrong(slots=["s", "t", "toolong"]), "slots")
        self.assertEqual(wrong(parts=["p"]), "kinds")
        self.assertEqual(wrong(parts=["p", "q", "p"], kinds=[]), "parts")
        self.assertEqual(wrong(parts=[]), "parts")
        self.assertEqual(wrong(kinds=[], readers=[]), "kinds")
        self.assertEqual(wrong(kinds=[KIND, KIND]), "kinds")
        self.assertEqual(wrong(kinds=[KIND, READER]), "kinds")
        self.assertEqual(wrong(readers=[]), "readers")
        self.assertEqual(wrong(readers=[OTHER, OTHER], rounds=()), "readers")
        self.assertEqual(wrong(readers=[KIND]), "readers")
        self.assertEqual(wrong(readers=[Reader("x", ["read u"])]), "readers")
        self.assertEqual(wrong(readers=[Reader("x", ["read s", "use s z"])]), "readers")
        for rounds in ((), [("c", 4)], [("d", 4)], [("c", 1), ("d", 2)], [("c", 9), ("d", 2)],
                       [("c", True), ("d", 2)], [["c", 4], ("d", 2)], [("c", 4), ("d", 2, 1)],
                       [("c", 4), ("d", 2), ("c", 4)], [("c", 4), ("d", "2")],
                       [("c", 4), ("d", None), ("E", 2)], {"c": 4, "d": 2}):
            self.assertEqual(wrong(rounds=rounds, wide=5, rooms=5), "rounds", rounds)
        for wide in ([("u", 2)], [("s", None)], [("s", 1)], [("s", 9)], [("s", 2), ("s", 2)],
                     [["s", 2]], ("s", 2), [("s", False)]):
            self.assertEqual(wrong(wide=wide, rooms=5), "wide", wide)
        for rooms in ([0, 0], (0,), (0, 0, 0), (0, -1), (True, 0), (0, None), "00"):
            self.assertEqual(wrong(rooms=rooms, reuse=0), "rooms", rooms)
        for reuse in ("some", None, True, ["any"], ("any",)):
            self.assertEqual(wrong(reuse=reuse), "reuse")

    def test_counters_that_nobody_names(self):
        made = Design(**{**GOOD, "rounds": [("x", 3), ("d", None), ("c", 4)]})
        self.assertEqual(made.counters, ("c", "d", "x"))

    def test_one_name_for_different_things(self):
        made = Design(["a"], ["a"], [Kind("a", ["bump a", "over a a"])], [Reader("a", ["read a"])],
                      [("a", 2)], [("a", 2)])
        self.assertEqual(Design.read(str(made)), made)

    def test_any_values(self):
        for value in any_values():
            for word in GOOD:
                told = wrong(**{word: value})
                if word == "wide" and value in ([], ()) or word == "rooms" and value == (0, 0):
                    self.assertIsNone(told)
                elif word == "reuse" and value == "any":
                    self.assertIsNone(told)
                elif word == "readers" and value == (Reader("r", ["read s"]),):
                    self.assertIsNone(told)
                elif word == "kinds" and value == [Kind("k", ["take", "put s"])]:
                    self.assertIsNone(told)
                elif word in ("slots", "parts") and value in (["s"], ("s",)):
                    self.assertEqual(told, "kinds")
                else:
                    self.assertEqual(told, word, value)

    def test_named_ones(self):
        made = Design(**GOOD)
        self.assertEqual((made.kind("l"), made.reader(name="o")), (MORE, OTHER))
        for value in any_values():
            if value not in ("k", "l"):
                error = raised(made.kind, value)
                self.assertIsInstance(error, NoName)
                self.assertIs(error.name, value)
            if value not in ("r", "o"):
                error = raised(made.reader, value)
                self.assertIsInstance(error, NoName)
                self.assertIs(error.name, value)

    def test_changed_ones(self):
        made = Design(**GOOD)
        new = Kind("k", ["aside"])
        self.assertEqual(made.with_kind(new).kinds, (new, MORE))
        self.assertEqual(made.with_kind(kind=Kind("z", ["aside"])).kinds[2].name, "z")
        self.assertEqual(made.with_reader(Reader("r", ["leave"])).readers[0].texts, ("leave",))
        self.assertEqual(made.with_reader(reader=Reader("z", ["leave"])).readers[2].name, "z")
        self.assertEqual(made.with_rounds(rounds=[("d", 2), ("c", 3)]).rounds, (("c", 3), ("d", 2)))
        self.assertEqual(made.with_wide(wide=()).wide, ())
        self.assertEqual(made.with_rooms(rooms=(0, 2)).rooms, (0, 2))
        self.assertEqual(made.with_reuse(reuse="any").reuse, "any")
        self.assertEqual(made, Design(**GOOD))
        self.assertEqual(raised(made.with_kind, Kind("z", ["bump x"])).word, "rounds")
        self.assertEqual(raised(made.with_kind, Kind("z", ["over u p"])).word, "kinds")
        self.assertEqual(raised(made.with_reader, Reader("z", ["num x"])).word, "rounds")
        self.assertEqual(raised(made.with_reader, Reader("z", ["read u"])).word, "readers")
        self.assertEqual(raised(made.with_kind, Reader("k", ["enter"])).word, "kinds")
        for value in any_values():
            if not isinstance(value, Kind):
                self.assertEqual(raised(made.with_kind, value).word, "kinds")
            if not isinstance(value, Reader):
                self.assertEqual(raised(made.with_reader, value).word, "readers")
            self.assertEqual(raised(made.with_rounds, value).word, "rounds")
            if value not in ([], ()):
                self.assertEqual(raised(made.with_wide, value).word, "wide")
            if value != (0, 0):
                self.assertEqual(raised(made.with_rooms, value).word, "rooms")
            if value != "any":
                self.assertEqual(raised(made.with_reuse, value).word, "reuse")

    def test_text(self):
        made = Design(**GOOD)
        self.assertEqual(str(made), TEXT)
        self.assertEqual(Design.read(TEXT), made)
        self.assertEqual(Design.read(text=TEXT.replace("slots s t", "slots t s")), made)
        self.assertFalse(made == made.with_rooms((0, 0)))
        for value in any_values():
            self.assertFalse(made == value)
        for seed in range(60):
            design = random_design(random.Random(seed))
            self.assertEqual(Design.read(str(design)), design)

    def test_lines_left_out(self):
        lines = TEXT.split("\n")
        for at in range(6):
            text = "\n".join(lines[:at] + lines[at + 1:])
            self.assertEqual(raised(Design.read, text).at, at)
        self.assertEqual(raised(Design.read, "\n".join(lines[:6] + lines[8:])).at, 6)
        for many in range(9):
            error = raised(Design.read, "\n".join(lines[:many]))
            self.assertEqual((error.__class__, error.at), (InvalidText, many))
        Design.read("\n".join(lines[:9] + lines[10:]).replace("o once", "x once"))

    def test_lines_put_in_or_exchanged(self):
        lines = TEXT.split("\n")
        for at in range(len(lines) + 1):
            for more in ("", "slots", "zz", " "):
                text = "\n".join(lines[:at] + [more] + lines[at:])
                self.assertEqual(raised(Design.read, text).at, at)
        for at in range(6):
            changed = list(lines)
            changed[at], changed[at + 1] = changed[at + 1], changed[at]
            self.assertEqual(raised(Design.read, "\n".join(changed)).at, at)
        self.assertEqual(raised(Design.read, "\n".join(lines[:7] + [lines[8], lines[7]])).at, 8)
        self.assertEqual(raised(Design.read, "\n".join(lines + [lines[7]])).at, 10)
        self.assertEqual(raised(Design.read, "\n".join(lines[:6] + lines[8:])).at, 6)

    def test_forms_of_lines(self):
        lines = TEXT.split("\n")
        bad = {0: ["slots", "slots ", "slots S", "slots s  t", "slot s", "slots s,t"],
               1: ["parts", "parts abcde", "parts -"],
               2: ["rounds", "rounds ", "rounds c", "rounds c 04", "rounds c 4,d -", "rounds - 4",
                   "rounds c 12345", "rounds c 4, ", "rounds c -1", "rounds C 4", "rounds c  4"],
               3: ["wide", "wide s -", "wide s", "wide s 4,", "wide s x"],
               4: ["rooms 0", "rooms 0 0 0", "rooms 00 0", "rooms a b", "rooms -1 0", "rooms -"],
               5: ["reuse", "reuse some", "reuse any never", "reuse  any"],
               6: ["kind k: ", "kind k: take,put s", "reader r once: enter"],
               9: ["reader r twice: enter", "reader r once: ", "kind z: aside"]}
        for at in bad:
            for line in bad[at]:
                error = raised(Design.read, "\n".join(lines[:at] + [line] + lines[at + 1:]))
                self.assertEqual((error.__class__, error.at), (InvalidText, at), line)
        for value in any_values():
            if not isinstance(value, str) or "\n" not in value:
                error = raised(Design.read, value)
                self.assertEqual((error.__class__, error.at), (InvalidText, 0), value)

    def test_what_does_not_go_together_comes_later(self):
        for old, new, word in (("slots s t", "slots s s t", "slots"), ("parts p q", "parts p", "kinds"),
                               ("c 4", "c 9", "rounds"), ("c 4, d -", "c 4", "rounds"),
                               ("wide s 8, t 2", "wide s 8, s 8", "wide"), ("s 8", "u 8", "wide"),
                               ("wide s 8", "wide s 1", "wide"), ("kind l", "kind k", "kinds"),
                               ("reader o", "reader r", "readers"), ("rounds c 4, d -", "rounds -", "rounds")):
            error = raised(Design.read, TEXT.replace(old, new))
            self.assertEqual((error.__class__, getattr(error, "word", None)), (InvalidDesign, word), new)
        both = TEXT.replace("put s, ", "").replace("read s, ", "").replace("slots s t", "slots s s")
        self.assertEqual((raised(Design.read, both).__class__), InvalidKind)
        self.assertEqual((raised(Design.read, both.replace("write p", "write p, put s")).__class__),
                         InvalidReader)
        self.assertEqual(raised(Design.read, both.replace("reuse never", "reuse")).at, 5)

    def test_later_changes_have_no_effect(self):
        slots, kinds, rounds = ["s", "t"], [KIND, MORE], [("c", 4), ("d", None)]
        made = Design(slots, ["p", "q"], kinds, [READER], rounds)
        slots.append("u"), kinds.pop(), rounds.clear()
        self.assertEqual((made.slots, len(made.kinds), made.counters), (("s", "t"), 2, ("c", "d")))
        with self.assertRaises(TypeError):
            iter(made)
