import unittest

from tests.values import any_values, raised
from unfooled.errors import InvalidReader, InvalidText, NoStep
from unfooled.readers import Reader

ALL = ["enter", "num d", "num c", "read t", "mark h t", "use t q", "fence", "look t", "read s",
       "use s p", "num c", "same 2 10", "even 1", "clear h", "leave"]
WRONG_STEPS = ["", "enter ", "Enter", "mark h", "mark h s t", "mark H s", "clear", "clear h s",
               "read", "read s t", "use s", "use p", "num", "num c d", "look", "same 0", "same 0 0",
               "same 1 0", "same 0 9", "same 0 1", "same 0 2 2", "same a b", "even", "even 9",
               "even 1", "even 00", "even -1", "even 0 2", "take", "fence s", "read s\n"]


class Readers(unittest.TestCase):
    """Promise 6."""

    def test_attributes(self):
        reader = Reader("r", ALL, "again")
        self.assertEqual((reader.name, reader.texts, reader.word, len(reader)),
                         ("r", tuple(ALL), "again", 15))
        self.assertEqual((reader.slots, reader.parts, reader.counters),
                         (("s", "t"), ("p", "q"), ("c", "d")))
        self.assertEqual(Reader("r", ["enter"]).word, "once")
        self.assertEqual(str(Reader("r", ("num c", "read s", "use s p"))),
                         "reader r once: num c, read s, use s p")
        self.assertEqual(Reader(word="once", texts=["enter"], name="r").slots, ())

    def test_there_and_back(self):
        for word in ("once", "again"):
            reader = Reader("r", ALL, word)
            self.assertEqual(Reader.read(str(reader)), reader)
            self.assertEqual(Reader.read(text=str(reader)).word, word)

    def test_equality(self):
        self.assertFalse(Reader("r", ["enter"]) == Reader("r", ["enter"], "again"))
        self.assertTrue(Reader("r", ["enter"]) == Reader("r", ("enter",), "once"))
        for value in any_values():
            if not isinstance(value, Reader):
                self.assertFalse(Reader("r", ["read s"]) == value)

    def test_wrong_steps(self):
        for text in WRONG_STEPS:
            error = raised(Reader, "r", ["num c", "num d", text])
            self.assertEqual((error.__class__, error.word), (InvalidReader, "texts"), text) \
                if text not in ("even 1",) else self.assertIsNone(error)
        for texts in (["read s", "read s"], ["use s p", "read s"], ["look s", "read s"],
                      ["mark h s", "read s"], ["read s", "use t p"], [],
                      ["num c", "same 0 2", "num c"], ["even 1", "num c"], ["read s", "even 0"],
                      ["num c", "num d", "same 0 1"], ["num c", "enter", "same 0 1"]):
            error = raised(Reader, "r", texts)
            self.assertEqual((error.__class__, error.word), (InvalidReader, "texts"), texts)
        Reader("r", ["clear h", "leave", "leave", "num c", "num c", "same 3 4", "same 3 4"])

    def test_any_values(self):
        for value in any_values():
            error = raised(Reader, "r", value)
            self.assertEqual((error.__class__, error.word), (InvalidReader, "texts"), value)
            error = raised(Reader, "r", ["enter", value], value)
            self.assertEqual((error.__class__, error.word), (InvalidReader, "texts"), value)
            if value != "once":
                error = raised(Reader, "r", ["enter"], value)
                self.assertEqual((error.__class__, error.word), (InvalidReader, "word"), value)
                error = raised(Reader("r", ["enter"]).with_word, value)
                self.assertEqual((error.__class__, error.word), (InvalidReader, "word"), value)
            error = raised(Reader.read, value)
            if value != "reader r once: read s":
                self.assertEqual((error.__class__, error.at), (InvalidText, 0), value)
            if not isinstance(value, str):
                error = raised(Reader, value, value, value)
                self.assertEqual((error.__class__, error.word), (InvalidReader, "name"), value)

    def test_texts_that_have_not_the_form(self):
        for text in ("reader r: enter", "reader r twice: enter", "reader once: enter",
                     "reader r once:enter", "reader r once: ", "reader r once: enter,leave",
                     "reader r once again: enter", "kind k: aside", "reader r once: enter ",
                     "reader r  once: enter", "reader r once: same 0"):
            self.assertEqual(raised(Reader.read, text).__class__, InvalidText, text)
        self.assertEqual(raised(Reader.read, "reader r once: look s").word, "texts")
        self.assertEqual(raised(Reader.read, "reader r once: same 1 0").word, "texts")

    def test_numbers_of_steps_go_along(self):
        reader = Reader("r", ["num c", "enter", "num c", "same 0 2", "even 2"], "again")
        self.assertEqual(str(reader.with_more(0, "leave")),
                         "reader r again: leave, num c, enter, num c, same 1 3, even 3")
        self.assertEqual(reader.with_more(1, "leave").texts[4:], ("same 0 3", "even 3"))
        self.assertEqual(reader.with_more(2, "num c").texts[4:], ("same 0 3", "even 3"))
        self.assertEqual(reader.with_more(3, "even 0").texts[3:], ("even 0", "same 0 2", "even 2"))
        self.assertEqual(reader.with_more(at=5, text="same 0 2").texts[3:],
                         ("same 0 2", "even 2", "same 0 2"))
        self.assertEqual(reader.without(1).texts, ("num c", "num c", "same 0 1", "even 1"))
        self.assertEqual(reader.without(3).texts, ("num c", "enter", "num c", "even 2"))
        self.assertEqual(reader.without(at=4).word, "again")
        for at in (0, 2):
            error = raised(reader.without, at)
            self.assertEqual((error.__class__, error.word), (InvalidReader, "texts"))
        three = Reader("r", ["num c", "num c", "num c", "same 0 2"])
        self.assertEqual(three.without(1).texts, ("num c", "num c", "same 0 1"))
        self.assertEqual(raised(three.without, 2).word, "texts")
        self.assertEqual(raised(Reader("r", ["read s", "use s p"]).without, 0).word, "texts")
        self.assertEqual(raised(Reader("r", ["enter"]).without, 0).word, "texts")
        self.assertEqual(raised(reader.with_more, 0, "same 0 2").word, "texts")

    def test_wrong_numbers_of_steps(self):
        reader = Reader("r", ["enter", "leave"])
        for value in any_values():
            if isinstance(value, bool) or value not in (0, 1):
                self.assertIs(raised(reader.without, value).at, value)
                self.assertEqual(raised(reader.without, value).__class__, NoStep)
            if isinstance(value, bool) or value not in (0, 1, 2):
                self.assertEqual(raised(reader.with_more, value, value).__class__, NoStep)
            error = raised(reader.with_more, 2, value)
            self.assertEqual((error.__class__, error.word), (InvalidReader, "texts"), value)

    def test_with_word(self):
        reader = Reader("r", ["enter"])
        self.assertEqual(str(reader.with_word("again")), "reader r again: enter")
        self.assertEqual(reader.with_word(word="once"), reader)

    def test_later_changes_have_no_effect(self):
        texts = ["enter"]
        reader = Reader("r", texts)
        texts.append("leave")
        self.assertEqual(reader.texts, ("enter",))
