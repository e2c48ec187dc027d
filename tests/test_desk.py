import random
import unittest

from tests.making import near_design, random_design
from tests.test_changes import random_change
from tests.test_logs import AHEAD, knowing_design, lock_home, questions_of, random_log
from tests.values import any_values, home, raised
from unfooled.changes import breaking, changed
from unfooled.desk import Desk
from unfooled.errors import (InvalidChange, InvalidCommand, InvalidDesign, InvalidEvent, InvalidKind, InvalidLog,
                             InvalidReader, InvalidText, InvalidWord, NoName, Refused)
from unfooled.faults import faults_of
from unfooled.live import Live
from unfooled.logs import log_fits, next_rows, word_for


def text_of(value):
    return "/".join(map(str, value))


def said(design):
    """The text of a design as it is told to a desk."""
    return "design " + str(design).replace("\n", " ; ")


def with_design(design):
    desk = Desk()
    desk.say(said(design))
    return desk


def state(desk):
    live = desk.live
    return str(desk.design), None if live is None else (live.events, len(live), live.played.hung, str(live.design))


def some_design(rng):
    return rng.choice([knowing_design, near_design, random_design])(rng)


def told_log(log):
    return "".join(" " + text_of(row) for row in log)


def told(call, *given):
    """What a call returns, or the class of its error with what it keeps."""
    try:
        return call(*given)
    except Exception as error:  # the tests ask which one
        return error.__class__, vars(error)


class Desks(unittest.TestCase):
    """Promises 84 and 85."""

    def test_by_hand(self):
        desk = Desk()
        self.assertEqual((desk.design, desk.live), (None, None))
        lock = lock_home()
        self.assertEqual(desk.say(command=said(lock)), "1")
        self.assertEqual((desk.design, desk.live.__class__, desk.live.design, desk.live.events), (lock, Live, lock, ()))
        ahead = told_log(AHEAD)
        for command, answer in (("hung", "0"), ("do start r", "fine"), ("do begin k", "fine"), ("do next 0", "fine"),
                                ("undo", "undone"), ("undo", "undone"), ("undo", "undone"), ("undo", "nothing"),
                                ("harms r", "fooled torn"), ("fits r", "yes"), ("fits r" + ahead, "yes"),
                                ("fits r num/c/1 even/0/yes", "no"), ("next r", "num/c/0 num/c/1 num/c/2 num/c/3"),
                                ("next r num/c/1 even/0/no", "none"), ("next r num/c/2 even/0/yes", "read/s/"),
                                ("word r good" + ahead, "open"), ("word r hangs/s" + ahead, "surely"),
                                ("word r amid", "open"), ("word r used", "never"), ("break r", "out/1 out/6"),
                                ("change r out/3", "fooled"), ("next r num/c/0", "even/0/yes"), ("break r", "none")):
            if command == "break r" and answer == "none":
                answer = " ".join(text_of(change) for change in breaking(desk.design, "r")) or "none"
            self.assertEqual(desk.say(command), answer, command)
        self.assertEqual(desk.design, changed(lock, "r", ("out", 3)))
        self.assertEqual(desk.say("change r round/c/8"), " ".join(faults_of(desk.design, "r")) or "none")
        self.assertEqual((desk.design.rounds, desk.live.design), ((("c", 8),), desk.design))

    def test_harms_that_are_met(self):
        desk = with_design(home(["k: take, write p, put s, aside, give 0"], ["r once: read s, use s p, use s p", "n once: read s"]))
        self.assertEqual(desk.say("harms n"), "none")
        for event in ["start r", "next 0", "begin k", "step", "step", "step", "step", "step"]:
            self.assertEqual(desk.say("do " + event), "fine")
        self.assertEqual((desk.say("hung"), desk.say("do next 0"), desk.say("do next 0")), ("1", "used", "used"))
        odd = home(["k: take, write p, put s, aside, give 0, take, put s"], ["r once: read s, use s p, look s"])
        desk = with_design(odd)
        for event in ["start r", "begin k", "step", "step", "step", "next 0", "next 0"]:
            desk.say("do " + event)
        self.assertEqual([desk.say("do " + event) for event in ("step", "step", "step", "step", "next 0")], ["fine"] * 5)
        wide = home(["k: take, put s", "l: take, put t"], ["r once: read s", "n once: read t"], slots="s t")
        desk = with_design(wide)
        self.assertEqual((desk.say(said(wide)), desk.say("hung")), ("2", "0 1"))
        for event in ["begin l", "step", "step"]:
            desk.say("do " + event)
        self.assertEqual(desk.say("hung"), "0 2")

    def test_beside_the_functions(self):
        """Each command beside the functions and a live stage of its own."""
        commands = 0
        for seed in range(100):
            rng = random.Random(seed)
            design = some_design(rng)
            desk, live = with_design(design), Live(design)
            for _ in range(14):
                name = rng.choice(design.readers).name
                word = rng.choice(["do", "do", "do", "undo", "hung", "harms", "fits", "next", "word", "break", "change"])
                given, due = self.command(rng, design, live, name, word)
                before = state(desk)
                found = told(desk.say, given)
                self.assertEqual(found, due, given)
                commands += 1
                if found.__class__ is tuple:
                    self.assertEqual(state(desk), before)
                elif word == "change":
                    design, live = desk.design, Live(desk.design)
                self.assertEqual(state(desk), (str(design), (live.events, len(live), live.played.hung, str(design))))
        self.assertGreater(commands, 1000)

    def command(self, rng, design, live, name, word):
        """A command, and what it ought to return or raise (an event is done on the live stage)."""
        log = random_log(rng, design, name, 5) if rng.random() < 0.8 else (("done",),) * rng.randint(1, 2)
        question = rng.choice(questions_of(design.reader(name)) + [("hangs", "x")])
        if word == "do":
            event = rng.choice(list(live.can()) * 3 + ["step", "next 7", "flush", "begin zz", "odd"])
            harms = told(live.do, event)
            return "do " + event, harms if isinstance(harms, tuple) and harms[1:] and isinstance(harms[1], dict) else " ".join(harms) or "fine"
        if word == "undo":
            return word, "undone" if live.undo() else "nothing"
        if word == "hung":
            return word, " ".join(map(str, live.played.hung))
        if word == "harms":
            return "harms " + name, " ".join(faults_of(design, name)) or "none"
        if word == "break":
            return "break " + name, " ".join(map(text_of, breaking(design, name))) or "none"
        if word == "change":
            change = random_change(rng, design, name)
            while None in change or change[0] == "in" and " " in change[2]:
                change = random_change(rng, design, name)
            due = told(changed, design, name, change)
            return f"change {name} {text_of(change)}", due if isinstance(due, tuple) else " ".join(faults_of(due, name)) or "none"
        if word == "fits":
            due = told(log_fits, design, name, log)
            return f"fits {name}" + told_log(log), {True: "yes", False: "no"}[due] if isinstance(due, bool) else due
        if word == "next":
            due = told(next_rows, design, name, log)
            failed = due[1:] and isinstance(due[1], dict)
            return f"next {name}" + told_log(log), due if failed else " ".join(map(text_of, due)) or "none"
        return f"word {name} {text_of(question)}" + told_log(log), told(word_for, design, name, log, question)

    def test_commands_that_are_none(self):
        lock = lock_home()
        wrong = ["", " ", "hung ", " hung", "do", "do ", "do  start r", "design", "design ", "undo 1", "hung r", "harms", "harms r r",
                 "fits", "next", "word r", "word", "break", "break r r", "change r", "change", "change r out/1 x", "Hung", "hungs",
                 "say", "hung\n", "do start\nr", "design a\nb", "harms  r", "fits r ", "play", "live", "word r  amid", "None"]
        for value in any_values() + wrong + [b"hung", 1.5, {"a": 1}]:
            # This one has a form, with a name that is none.
            if isinstance(value, str) and value == "next 0":
                continue
            for desk in (Desk(), with_design(lock)):
                before = state(desk)
                self.assertEqual(raised(desk.say, value).__class__, InvalidCommand, value)
                self.assertEqual(state(desk), before)
        for command in ("do start r", "undo", "hung", "harms r", "fits r", "next r", "word r amid", "break r", "change r out/1"):
            self.assertEqual(raised(Desk().say, command).__class__, InvalidCommand)

    def test_refused_commands(self):
        lock = lock_home()
        for command, error, kept in (
                ("design slots s", InvalidText, {"at": 1}), ("design x", InvalidText, {"at": 0}),
                (said(lock).replace("slots s", "slots t"), InvalidDesign, {"word": "kinds"}),
                (said(lock).replace("k: bump c, over", "k: take, over"), InvalidKind, {"word": "texts"}),
                (said(lock).replace("read s, use s p", "use s p"), InvalidReader, {"word": "texts"}),
                (said(lock).replace(" ; ", ";"), InvalidText, {"at": 0}),
                ("do odd", InvalidEvent, {"at": 2}), ("do step", Refused, {"at": 2}), ("do next 1", Refused, {"at": 2}),
                ("do start r r", InvalidEvent, {"at": 2}), ("harms x", NoName, {"name": "x"}), ("harms 0", NoName, {"name": "0"}),
                ("fits x done", NoName, {"name": "x"}), ("fits r done", InvalidLog, {"at": 0}),
                ("fits r num/c/00", InvalidLog, {"at": 0}), ("fits r num/c/0 even/0/yes/", InvalidLog, {"at": 1}),
                ("fits r num/c/-1", InvalidLog, {"at": 0}), ("fits r /", InvalidLog, {"at": 0}),
                ("next r num/c/0 even/0/maybe", InvalidLog, {"at": 1}), ("next zz x", NoName, {"name": "zz"}),
                ("word x y z", NoName, {"name": "x"}), ("word r y z", InvalidLog, {"at": 0}), ("word r y", InvalidWord, {}),
                ("word r hangs/t", InvalidWord, {}), ("word r amid/", InvalidWord, {}),
                ("word r amid num/c/1 even/0/yes", Refused, {"at": 1}), ("break R", NoName, {"name": "R"}),
                ("change x y", NoName, {"name": "x"}), ("change r y", InvalidChange, {"word": "change"}),
                ("change r out/0", InvalidChange, {"word": "change"}), ("change r out/01", InvalidChange, {"word": "change"}),
                ("change r round/c/-", InvalidChange, {"word": "change"}), ("change r out", InvalidChange, {"word": "change"})):
            desk = with_design(lock)
            desk.live.several(["start r", "next 0"])
            before = state(desk)
            self.assertEqual(told(desk.say, command), (error, kept), command)
            self.assertEqual(state(desk), before)

    def test_numbers_and_words(self):
        """Four digits without leading zeros are a number, all else is a word."""
        desk = with_design(home(["k: bump c"], ["r again: num c, fence, even 0"], rounds="c 4"))
        self.assertEqual([desk.say("change r in/3/fence"), desk.say("change r rooms/1/9999"), desk.design.rooms],
                         ["none", "none", (1, 9999)])
        self.assertEqual(raised(desk.say, "change r rooms/1/10000").__class__, InvalidChange)
        self.assertEqual(desk.say("change r reuse/never"), "none")
        self.assertEqual(str(desk.design.reader("r")), "reader r again: num c, fence, even 0, fence")

    def test_all_taken_back(self):
        rng = random.Random(5)
        for seed in range(20):
            design = some_design(random.Random(seed))
            desk, many = with_design(design), 0
            hung = desk.say("hung")
            for _ in range(30):
                desk.say("do " + rng.choice(desk.live.can()))
                many += 1
            self.assertEqual([desk.say("undo") for _ in range(many + 2)], ["undone"] * many + ["nothing"] * 2)
            self.assertEqual((desk.say("hung"), desk.live.events, desk.design), (hung, (), design))

    def test_desks_stand_alone(self):
        one, other = with_design(lock_home()), with_design(lock_home())
        one.say("do start r")
        self.assertEqual((one.live.events, other.live.events), (("start r",), ()))
        one.say(said(lock_home()))
        self.assertEqual((one.live.events, len(one.live)), ((), 0))
        self.assertNotEqual(one, other)
        self.assertRaises(TypeError, list, one)
