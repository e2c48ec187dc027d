import unittest

from unfooled import errors

WITH_WORD = ["InvalidKind", "InvalidReader", "InvalidDesign", "InvalidChange"]
WITH_AT = ["InvalidText", "InvalidEvent", "InvalidLog", "Refused"]
BARE = ["InvalidHarm", "InvalidWord", "InvalidCommand"]


class Errors(unittest.TestCase):
    """Promise 4."""

    def test_bases(self):
        self.assertEqual(errors.LookError.__bases__, (ValueError,))
        for name in WITH_WORD + WITH_AT + BARE:
            self.assertEqual(getattr(errors, name).__bases__, (errors.LookError,), name)
        self.assertEqual(errors.NoName.__bases__, (KeyError,))
        self.assertEqual(errors.NoStep.__bases__, (IndexError,))

    def test_none_derives_from_another_one(self):
        classes = [getattr(errors, name) for name in WITH_WORD + WITH_AT + BARE]
        classes += [errors.NoName, errors.NoStep]
        for one in classes:
            for other in classes:
                self.assertEqual(issubclass(one, other), one is other)

    def test_each_keeps_the_very_object(self):
        told = [(name, "word") for name in WITH_WORD] + [(name, "at") for name in WITH_AT]
        told += [("NoName", "name"), ("NoStep", "at")]
        for name, attribute in told:
            for thing in ([1, [2]], {"a": 1}, object(), None, "x"):
                made = getattr(errors, name)(thing)
                self.assertIs(getattr(made, attribute), thing)
                named = getattr(errors, name)(**{attribute: thing})
                self.assertIs(getattr(named, attribute), thing)
        for name in BARE:
            self.assertIsInstance(getattr(errors, name)(), errors.LookError)
