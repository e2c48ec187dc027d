import unittest

from tests.values import any_values, raised
from unfooled.errors import InvalidKind, InvalidText, NoStep
from unfooled.kinds import Kind
from unfooled.readers import Reader

ALL = ["take", "write p", "put s", "over t q", "bump c", "bump b", "aside", "move", "try", "wait",
       "give 0", "give 12 free", "fence"]
WRONG_STEPS = ["", "take ", " take", "Take", "write", "write P", "write abcde", "write p q",
               "put s t", "over s", "over s p q", "bump", "give", "give -1", "give 00", "give 01",
               "give 12345", "give 1 fre", "give free", "give 1 free free", "give  1", "fence s",
               "read s", "enter", "take\n", "give ١", "write é"]


class Kinds(unittest.TestCase):
    """Promise 5."""

    def test_attributes(self):
        kind = Kind("swap", ALL)
        self.assertEqual((kind.name, kind.texts, len(kind)), ("swap", tuple(ALL), 13))
        self.assertEqual((kind.slots, kind.parts, kind.counters),
                         (("s", "t"), ("p", "q"), ("b", "c")))
        self.assertEqual(str(Kind("swap", ("take", "write p", "put s", "aside"))),
                         "kind swap: take, write p, put s, aside")
        self.assertEqual((Kind(texts=["aside"], name="a").slots), ())

    def test_there_and_back(self):
        kind = Kind("swap", ALL)
        self.assertEqual(Kind.read(str(kind)), kind)
        self.assertEqual(Kind.read(text=str(kind)).texts, kind.texts)

    def test_equality(self):
        self.assertTrue(Kind("k", ["aside"]) == Kind("k", ("aside",)))
        self.assertFalse(Kind("k", ["aside"]) == Kind("l", ["aside"]))
        self.assertFalse(Kind("k", ["aside"]) == Kind("k", ["aside", "aside"]))
        for value in any_values():
            if not isinstance(value, Kind):
                self.assertFalse(Kind("k", ["take", "put s"]) == value)

    def test_the_hand(self):
        for texts in (["take"], ["put s"], ["write p"], ["take", "take", "put s"],
                      ["take", "put s", "write p"], ["take", "put s", "put s"],
                      ["take", "put s", "take"]):
            error = raised(Kind, "k", texts)
            self.assertIsInstance(error, InvalidKind)
            self.assertEqual(error.word, "texts")
            self.assertEqual(raised(Kind.read, "kind k: " + ", ".join(texts)).word, "texts")
        Kind("k", ["take", "put s", "over s p", "take", "wait", "write p", "put s"])

    def test_wrong_steps(self):
        for text in WRONG_STEPS:
            error = raised(Kind, "k", ["aside", text])
            self.assertIsInstance(error, InvalidKind, text)
            self.assertEqual(error.word, "texts")
            error = raised(Kind.read, "kind k: aside, " + text)
            self.assertIsInstance(error, InvalidText, text)
            self.assertEqual(error.at, 0)

    def test_any_values(self):
        for value in any_values():
            if value not in ("s", "p", "r", "k", "zz", "take", "step", "any", "once", "used"):
                error = raised(Kind, value, value)
                self.assertEqual((error.__class__, error.word), (InvalidKind, "name"), value)
            error = raised(Kind, "k", value)
            self.assertEqual((error.__class__, error.word), (InvalidKind, "texts"), value)
            error = raised(Kind, "k", [value])
            self.assertEqual((error.__class__, error.word), (InvalidKind, "texts"), value)
            error = raised(Kind.read, value)
            if value != "kind k: take":
                self.assertEqual((error.__class__, error.at), (InvalidText, 0), value)
        self.assertEqual(raised(Kind.read, "kind k: take").word, "texts")

    def test_texts_that_have_not_the_form(self):
        for text in ("kind k:aside", "kind k aside", "kind: aside", "kind K: aside", "kind k: ",
                     "kind k: aside,aside", "kind k: aside, ", "kind k l: aside", "kin k: aside",
                     " kind k: aside", "kind k: aside ", "kind abcde: aside", "kind k:  aside",
                     "reader r once: read s"):
            self.assertEqual((raised(Kind.read, text).__class__), InvalidText, text)

    def test_without_and_with_more(self):
        kind = Kind("k", ["take", "write p", "put s", "aside"])
        self.assertEqual(kind.without(1).texts, ("take", "put s", "aside"))
        self.assertEqual(kind.without(at=3).texts, ("take", "write p", "put s"))
        self.assertEqual(kind.with_more(0, "fence").texts[:2], ("fence", "take"))
        self.assertEqual(kind.with_more(at=4, text="give 0").texts[3:], ("aside", "give 0"))
        self.assertEqual(kind.texts, ("take", "write p", "put s", "aside"))
        for at in (0, 2):
            self.assertEqual(raised(kind.without, at).word, "texts")
        self.assertEqual(raised(Kind("k", ["aside"]).without, 0).word, "texts")
        self.assertEqual(raised(kind.with_more, 1, "take").word, "texts")
        for value in any_values():
            if isinstance(value, bool) or value not in (0, 1, 2, 3):
                error = raised(kind.without, value)
                self.assertEqual(error.__class__, NoStep, value)
                self.assertIs(error.at, value)
            if isinstance(value, bool) or value not in (0, 1, 2, 3, 4):
                error = raised(kind.with_more, value, value)
                self.assertEqual(error.__class__, NoStep, value)
                self.assertIs(error.at, value)
            error = raised(kind.with_more, 0, value)
            self.assertEqual((error.__class__, error.word), (InvalidKind, "texts"), value)
        self.assertEqual(raised(kind.without, 4).at, 4)
        self.assertEqual(raised(kind.with_more, 5, "aside").at, 5)

    def test_later_changes_have_no_effect(self):
        texts = ["aside", "fence"]
        kind = Kind("k", texts)
        texts.append("wait")
        self.assertEqual(kind.texts, ("aside", "fence"))

    def test_objects_are_not_iterable(self):
        for made in (Kind("k", ["aside"]), Reader("r", ["enter"])):
            with self.assertRaises(TypeError):
                iter(made)
