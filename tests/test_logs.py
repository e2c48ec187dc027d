import random
import unittest

from tests.making import near_design, random_design
from tests.onlooker import Beliefs, Onlooker, seen_by
from tests.test_papers import with_bools, with_numbers
from tests.values import any_values, home, raised
from unfooled.designs import Design
from unfooled.errors import InvalidLog, InvalidWord, LookError, NoName, Refused
from unfooled.kinds import Kind
from unfooled.logs import (can_know, first_known, log_fits, log_holds, log_paper, must_know, next_rows,
                           parting_log, story_of, unlike_stories, word_for)
from unfooled.readers import Reader

AHEAD = (("num", "c", 0), ("even", 0, "yes"), ("read", "s", ""), ("done",), ("done",))


def lock_home(**lines):
    given = {"parts": "p q", "rounds": "c 4", "reuse": "never"}
    given.update(lines)
    return home(["k: bump c, over s p, over s q, bump c"],
                ["r once: num c, even 0, read s, use s p, use s q, num c, same 0 5"], **given)


# Kinds and readers who come to know something.
KNOWING = (
    (["bump c, wait, bump c"], "enter, num c, num c, leave, num c"),
    (["take, put s, aside, give 0, bump c"], "read s, num c, num c, num c, use s p"),
    (["bump c, over s p, over s q, bump c"], "num c, even 0, read s, use s p, use s q, num c, same 0 5"),
    (["bump c, over s p, bump c"], "num c, read s, use s p, num c, same 0 3"),
    (["take, put t, aside, give 0, take, put s", "take, put s, aside, give 0"], "read s, read t, look s, use s p"),
    (["take, write p, put s, aside, give 0"], "read s, look s, use s p, look s, use s p"),
    (["take, put s, aside, wait, give 0, bump c"], "num c, enter, read s, num c, leave, use s p"),
    (["bump c, fence, bump c"], "num c, even 0, num c, even 2, same 0 2"),
    (["move", "bump c, wait, over s p"], "enter, num c, num c, leave"),
)


def knowing_design(rng):
    kinds, texts = rng.choice(KNOWING)
    kinds = [Kind(name, text.split(", ")) for name, text in zip("kl", kinds)]
    reader = Reader("r", texts.split(", "), rng.choice(["once", "again"]))
    if rng.random() < 0.3:
        try:
            reader = reader.without(rng.randrange(len(reader)))
        except LookError:
            pass
    return Design(["s", "t"], ["p", "q"], kinds, [reader], [("c", rng.choice([None, 2, 3, 4]))], [],
                  (rng.choice([0, 0, 1]), rng.choice([0, 0, 1])), rng.choice(["any", "any", "never"]))


def some_design(rng, steps=6):
    pick = rng.random()
    if pick < 0.4:
        return knowing_design(rng)
    return near_design(rng) if pick < 0.6 else random_design(rng, most_steps=5, reader_steps=steps)


def small_design(rng, most):
    """A design and a reader's name with at most so many standings, and all lots of them."""
    while True:
        design = some_design(rng)
        name = rng.choice(design.readers).name
        beliefs = Beliefs(design, name)
        if len(beliefs.standings) <= most:
            return design, name, beliefs


def questions_of(reader):
    return [("amid",), ("used",), ("good",)] + [(word, slot) for word in ("hangs", "over") for slot in reader.slots]


def random_log(rng, design, name, many):
    """A log that fits, of at most so many rows, whose run goes on."""
    log = ()
    for _ in range(rng.randint(0, many)):
        rows = [row for row in next_rows(design, name, log) if next_rows(design, name, log + (row,))]
        if rows:
            log += (rng.choice(rows),)
    return log


class Logs(unittest.TestCase):
    """Promises 77 and 78."""

    def test_the_example(self):
        lock = lock_home()
        self.assertEqual(next_rows(lock, "r", AHEAD), tuple(("num", "c", number) for number in range(4)))
        self.assertEqual((word_for(lock, "r", AHEAD, ("good",)), word_for(lock, "r", AHEAD, ("hangs", "s"))),
                         ("open", "surely"))
        turned = AHEAD + (("num", "c", 1),)
        self.assertEqual((word_for(lock, "r", turned, ("good",)), word_for(lock, "r", turned, ("amid",)),
                          first_known(lock, "r", ("good",))), ("surely", "open", ((), "never")))
        self.assertEqual((parting_log(lock, lock.with_rooms((1, 0)), "r"),
                          log_fits(lock, "r", (("num", "c", 1), ("even", 0, "yes")))), (None, False))

    def weave(self, rng, design, name, many=60):
        """A random weaving, event by event."""
        onlooker, lazy = Onlooker(design, name), rng.uniform(0.3, 0.8)
        onlooker.do("start " + name)
        yield onlooker
        for _ in range(many):
            updates = ["step", "step", "flush"] + ["begin " + kind.name for kind in design.kinds]
            updates += [f"step {cell}" for cell in onlooker.scene.house.back]
            own = ["next 0", "next 0", "drain 0"]
            own += [f"{word} {at}" for at in range(1, len(onlooker.scene.guests)) for word in ("next", "drain")]
            own += ["start " + reader.name for reader in design.readers] * (len(onlooker.scene.guests) < 3)
            pool = [text for text in (updates if rng.random() < lazy else own) if onlooker.may(text)]
            if pool:
                onlooker.do(rng.choice(pool))
                yield onlooker
            if onlooker.is_over:
                return

    def test_weavings_fit(self):
        words, rows, goods = {}, 0, {}
        for seed in range(120):
            rng = random.Random(seed)
            design = some_design(rng)
            name = rng.choice(design.readers).name
            questions, beliefs = questions_of(design.reader(name)), None
            for _ in range(3):
                before = ()
                for onlooker in self.weave(rng, design, name):
                    log = onlooker.log
                    if log != before:
                        rows += 1
                        self.assertIn(log[-1], next_rows(design, name, before))
                        self.assertIs(log_fits(design, name, log), True)
                        before = log
                    if onlooker.is_over:
                        self.assertEqual(next_rows(design, name, log), ())
                    elif rng.random() < 0.3:
                        question = rng.choice(questions)
                        beliefs = beliefs or Beliefs(design, name)
                        word = word_for(design, name, log, question)
                        told = onlooker.answer(question, beliefs.goods)
                        self.assertIn(word, ("open", "surely" if told else "never"), (str(design), log, question))
                        words[question[0], word] = words.get((question[0], word), 0) + 1
        self.assertGreater(rows, 400)
        self.assertGreater(len(words), 10, words)

    def test_rows_that_can_come_next(self):
        """Each of them is seen in a story, no other row fits."""
        found = set()
        for seed in range(120):
            rng = random.Random(seed)
            design = some_design(rng)
            reader = rng.choice(design.readers)
            log = random_log(rng, design, reader.name, 12)
            told = next_rows(design, reader.name, log)
            self.assertEqual((told.__class__, told), (tuple, tuple(sorted(set(told)))))
            for row in told:
                self.check_story(design, reader.name, log + (row,))
                found.add((row[0], row[-1]))
            for row in self.rows_of_forms(design, reader, told[0]):
                fits = row in told
                self.assertIs(log_fits(design, reader.name, log + (row,)), fits)
                self.assertEqual(story_of(design, reader.name, log + (row,)) is not None, fits)
                if not fits:
                    self.assertEqual(next_rows(design, reader.name, log + (row,)), ())
            self.check_story(design, reader.name, log)
        self.assertGreater(len(found), 11, found)

    def rows_of_forms(self, design, reader, row):
        """All rows that have the form of one."""
        if row[0] == "num":
            return [("num", row[1], number) for number in range(dict(design.rounds)[row[1]] or 1)]
        if row[0] == "read":
            reads = [text.split(" ")[1] for text in reader.texts if text.startswith("read")]
            return [("read", row[1], slot) for slot in ["", *reads[:reads.index(row[1])]]]
        return [(*row[:-1], word) for word in ("yes", "no")] if row[-1] in ("yes", "no") else [row]

    def check_story(self, design, name, log):
        told = story_of(design, name, log)
        self.assertEqual([one.__class__ for one in (told, told[0], told[1])], [tuple, int, tuple])
        self.assertEqual(seen_by(design, name, told).log, log)

    def test_alike_cells(self):
        """One cell that goes from slot to slot: the first slot with this cell is told."""
        design = home(["k: take, put u, aside, give 0, take, put t", "l: take, put s, aside, give 0"],
                      ["r again: read s, read u, read t, look t"], slots="s t u")
        rows = next_rows(design, "r", (("read", "s", ""), ("read", "u", "")))
        self.assertEqual(rows, (("read", "t", ""), ("read", "t", "s"), ("read", "t", "u")))
        self.assertEqual(next_rows(design, "r", (("read", "s", ""),)), (("read", "u", ""), ("read", "u", "s")))
        both = (("read", "s", ""), ("read", "u", "s"))
        self.assertEqual(next_rows(design, "r", both), (("read", "t", ""), ("read", "t", "s")))
        self.assertIs(log_fits(design, "r", both + (("read", "t", "u"),)), False)
        again = both + (("read", "t", ""), ("look", "t", "no"))
        self.assertEqual(next_rows(design, "r", again), (("read", "s", ""),))
        self.check_story(design, "r", again + both)

    def test_the_end_of_a_run(self):
        design = lock_home()
        end = (("num", "c", 3), ("even", 0, "no"))
        self.assertEqual((log_fits(design, "r", end), next_rows(design, "r", end)), (True, ()))
        self.check_story(design, "r", end)
        again = design.with_reader(design.reader("r").with_word("again"))
        self.assertEqual(next_rows(again, "r", end), tuple(("num", "c", number) for number in range(4)))
        error = raised(log_fits, design, "r", end + (("num", "c", 0),))
        self.assertEqual((error.__class__, error.at), (InvalidLog, 2))
        whole = AHEAD + (("num", "c", 0), ("same", 0, 5, "yes"))
        for one in (design, again):
            self.assertEqual((log_fits(one, "r", whole), next_rows(one, "r", whole)), (True, ()))
            self.assertEqual(raised(next_rows, one, "r", whole + (("done",),)).at, 7)
        self.assertEqual(story_of(design, "r", ())[1][0], "start r")


class LogPapers(unittest.TestCase):
    """Promise 79."""

    def asked(self, seeds, most=150):
        for seed in seeds:
            rng = random.Random(seed)
            design, name, beliefs = small_design(rng, most)
            log = random_log(rng, design, name, 8)
            if rng.random() < 0.3:
                log += (rng.choice(next_rows(design, name, log)),)
            yield rng, design, name, beliefs, log, log_paper(design, name, log)

    def test_papers(self):
        for rng, design, name, beliefs, log, paper in self.asked(range(80)):
            self.assertEqual((paper.__class__, len(paper)), (tuple, len(log) + 1))
            for at, lot in enumerate(paper):
                self.assertEqual(set(lot), set(beliefs.behind(log[:at]) or ()))
            self.assertIs(log_holds(design, name, log, paper), True)
            mixed = []
            for lot in paper:
                row = list(lot) + rng.choices(lot, k=2) if lot else []
                rng.shuffle(row)
                mixed.append(tuple(row))
            self.assertIs(log_holds(design, name, log, tuple(mixed)), True)
            # There may be more standings in it than need to be.
            whole = tuple(beliefs.standings)
            self.assertIs(log_holds(design, name, log, (whole,) * (len(log) + 1)), True)

    def test_logs_that_do_not_fit_have_papers(self):
        lock = lock_home()
        log = (("num", "c", 1), ("even", 0, "yes"), ("read", "s", ""))
        paper = log_paper(lock, "r", log)
        self.assertEqual([len(lot) > 0 for lot in paper], [True, True, False, False])
        self.assertIs(log_holds(lock, "r", log, paper), True)

    def test_just_those_that_are_closed(self):
        found = {True: 0, False: 0}
        for rng, design, name, beliefs, log, paper in self.asked(range(60), 80):
            for _ in range(6):
                lots = [list(lot) for lot in paper]
                for _ in range(rng.choice([1, 1, 2])):
                    at = rng.randrange(len(lots))
                    if rng.random() < 0.3 and lots[at]:
                        lots[at].pop(rng.randrange(len(lots[at])))
                    else:
                        more = beliefs.whole([rng.choice(beliefs.standings)])
                        lots[at] += list(more) if rng.random() < 0.7 else list(more)[:1]
                holds = self.holds(beliefs, log, [set(lot) for lot in lots])
                self.assertIs(log_holds(design, name, log, tuple(tuple(lot) for lot in lots)), holds)
                found[holds] += 1
        self.assertGreater(min(found.values()), 30, found)

    def holds(self, beliefs, log, lots):
        """Word by word."""
        if beliefs.standings[0] not in lots[0]:
            return False
        for at, lot in enumerate(lots):
            for standing in lot:
                for label, behind, _, words in beliefs.moves[standing]:
                    if label != ("own", "next") and behind not in lot:
                        return False
                    if label == ("own", "next") and at < len(log) and behind is not None:
                        if beliefs.row(standing, words) == log[at] and behind not in lots[at + 1]:
                            return False
        return True

    def test_papers_that_are_spoilt(self):
        for rng, design, name, beliefs, log, paper in self.asked(range(25)):
            lot = paper[0]
            at = rng.randrange(len(lot))
            rest, odd = lot[:at] + lot[at + 1:], lot[at]
            wrong = [rest, list(lot), (), lot + (0,), rest + (list(odd),), rest + (with_bools(odd),),
                     rest + (with_numbers(odd),), lot + (odd[:5],), lot + (None,), lot + ((odd,),),
                     lot + ((("zz", 0, "none", (), (), False, False), *odd[1:]),)]
            for one in wrong:
                self.assertIs(log_holds(design, name, log, (one,) + paper[1:]), False)
            for value in any_values() + [list(paper), paper + ((),), paper[1:], (paper,), paper + (paper[0],)]:
                self.assertIs(log_holds(design, name, log, value), False)
                self.assertIs(log_holds(design, name, log, (lot + (value,),) + paper[1:]), False)
                if value != ():
                    self.assertIs(log_holds(design, name, log, paper[:-1] + (value,)), False)


class Words(unittest.TestCase):
    """Promise 80."""

    def test_words(self):
        found = {}
        for seed in range(120):
            rng = random.Random(seed)
            design, name, beliefs = small_design(rng, 300)
            for _ in range(4):
                log = random_log(rng, design, name, 10)
                for question in questions_of(design.reader(name)):
                    word = word_for(design, name, log, question)
                    self.assertEqual(word, beliefs.word(beliefs.behind(log), question), (str(design), log, question))
                    self.check_stories(design, name, log, question, word, beliefs)
                    found[question[0], word] = found.get((question[0], word), 0) + 1
        self.assertGreater(len(found), 11, found)

    def check_stories(self, design, name, log, question, word, beliefs):
        told = unlike_stories(design, name, log, question)
        self.assertEqual(told is not None, word == "open")
        if told is not None:
            self.assertEqual((told.__class__, len(told)), (tuple, 2))
            for story, answer in zip(told, (True, False)):
                onlooker = seen_by(design, name, story)
                self.assertEqual((onlooker.log, onlooker.is_over), (log, False))
                self.assertIs(onlooker.answer(question, beliefs.goods), answer, (str(design), story, question))

    def test_surely(self):
        design = home(["k: take, put s, aside, give 0, bump c"], ["r once: read s, num c, num c, num c, use s p, look s"],
                      rounds="c 4")
        log = (("read", "s", ""), ("num", "c", 0), ("num", "c", 1), ("num", "c", 2), ("done",))
        self.assertEqual([word_for(design, "r", log[:many], ("over", "s")) for many in range(6)],
                         ["never", "open", "open", "open", "surely", "surely"])
        self.assertEqual([word_for(design, "r", log[:many], ("used",)) for many in range(3, 6)],
                         ["never", "never", "surely"])
        self.assertEqual([word_for(design, "r", log[:many], ("good",)) for many in range(3, 6)],
                         ["never", "never", "never"])
        self.assertEqual([word_for(design.with_reuse("never"), "r", log, question)
                          for question in (("hangs", "s"), ("over", "s"), ("used",))], ["never", "surely", "surely"])

    def test_nothing_was_read_there(self):
        lock = lock_home()
        for log in ((), AHEAD[:1], AHEAD[:2]):
            self.assertEqual([word_for(lock, "r", log, (word, "s")) for word in ("hangs", "over")], ["never", "never"])
        gone = home(["k: take, put s, aside, give 0"], ["r again: read s, use s p, look s"])
        read = (("read", "s", ""),)
        self.assertEqual([word_for(gone, "r", read, (word, "s")) for word in ("hangs", "over")], ["open", "open"])
        no = read + (("done",), ("look", "s", "no"))
        self.assertEqual([word_for(gone, "r", no, (word, "s")) for word in ("hangs", "over")], ["never", "never"])
        self.assertEqual([word_for(gone, "r", log, ("used",)) for log in (read, read + no[1:2], no)],
                         ["never", "open", "never"])

    def test_errors(self):
        lock = lock_home()
        works = (word_for, unlike_stories, can_know, must_know)
        for value in any_values() + [("hangs", "t"), ("hangs",), ("amid", "s"), ["amid"], ("good", ()), ("over", None),
                                     ("hangs", ("s",)), ("amid",) * 2, "amid", ("AMID",)]:
            for work in works:
                self.assertEqual(raised(work, lock, "r", (), value).__class__, InvalidWord, value)
            self.assertEqual(raised(first_known, lock, "r", value).__class__, InvalidWord, value)
            # Ahead of that a wrong log, and a wrong name; behind it a log that does not fit.
            error = raised(word_for, lock, "r", ((),), value)
            self.assertEqual((error.__class__, error.at), (InvalidLog, 0))
            self.assertEqual(raised(word_for, lock, "r", (("num", "c", 1), ("even", 0, "yes")), value).__class__, InvalidWord)
        end = (("num", "c", 1), ("even", 0, "no"))
        for log, at in (((("num", "c", 1), ("even", 0, "yes")), 1), (end, 1), (AHEAD + (("num", "c", 0), ("same", 0, 5, "no")), 6),
                        ((("num", "c", 1), ("even", 0, "yes"), ("read", "s", ""), ("done",)), 1)):
            for work in works:
                error = raised(work, lock, "r", log, ("amid",))
                self.assertEqual((error.__class__, error.at), (Refused, at), log)

    def test_wrong_logs(self):
        lock = lock_home()
        works = ((log_fits, ()), (next_rows, ()), (story_of, ()), (log_paper, ()), (log_holds, ((),)),
                 (word_for, (("amid",),)), (unlike_stories, (0,)), (can_know, (None,)), (must_know, (("amid",),)))
        for value in any_values() + [("done",), ("num", "c", 1), ("num", "c", 0, 0), ["num", "c", 0], ("num", "d", 0)]:
            for work, more in works:
                if value != ():
                    error = raised(work, lock, "r", value, *more)
                    self.assertEqual((error.__class__, error.at), (InvalidLog, 0), value)
                error = raised(work, lock, "r", AHEAD[:1] + (value,), *more)
                self.assertEqual((error.__class__, error.at), (InvalidLog, 1), value)
                if value != "r":
                    error = raised(work, lock, value, value, *more)
                    self.assertEqual((error.__class__, error.name is value), (NoName, True))
            if value != "r":
                for error in (raised(first_known, lock, value, value), raised(parting_log, lock, lock, value)):
                    self.assertEqual((error.__class__, error.name is value), (NoName, True))
        for at, row in enumerate((("num", "c", 4), ("even", False, "yes"), ("read", "s", "s"), ("use", "s", "p"),
                                  ("done", ""), ("num", "c", True), ("same", 0, 5))):
            log = (AHEAD + (("num", "c", 0),))[:at] + (row,)
            error = raised(log_fits, lock, "r", log + (("zz",),))
            self.assertEqual((error.__class__, error.at), (InvalidLog, at), log)
        free = lock_home(rounds="c -")
        self.assertEqual(raised(log_fits, free, "r", (("num", "c", 1),)).at, 0)
        self.assertIs(log_fits(log=(("num", "c", 0),), name="r", design=free), True)


class Knowing(unittest.TestCase):
    """Promise 81."""

    def test_what_can_and_must_be_known(self):
        found = {}
        for seed in range(110):
            rng = random.Random(seed)
            design, name, beliefs = small_design(rng, 150)
            lots = beliefs.all_lots(beliefs.first)
            for question in questions_of(design.reader(name)):
                self.check_first(design, name, question, beliefs, lots)
                for log in ((), random_log(rng, design, name, 6)):
                    here = beliefs.behind(log)
                    can = any(beliefs.word(lot, question) != "open" for lot in beliefs.all_lots(here))
                    must = beliefs.must_know(here, question)
                    self.assertIs(can_know(design, name, log, question), can)
                    self.assertIs(must_know(design, name, log, question), must, (str(design), log, question))
                    key = (beliefs.word(here, question) == "open", can, must)
                    found[key] = found.get(key, 0) + 1
        self.assertLessEqual({(True, True, True), (True, True, False), (True, False, False), (False, True, True)}, set(found))

    def check_first(self, design, name, question, beliefs, lots):
        told = first_known(design, name, question)
        known = [lots[lot] for lot in lots if beliefs.word(lot, question) != "open"]
        self.assertEqual(told is None, known == [])
        if told is not None:
            log, word = told
            self.assertEqual(len(log), min(known))
            self.assertEqual((log_fits(design, name, log), word), (True, word_for(design, name, log, question)))
            self.assertNotEqual(word, "open")

    def test_first_logs_of_some_rows(self):
        """Nothing is known at first, but later."""
        waits = home(["k: bump c, wait, bump c"], ["r once: enter, num c, num c, leave"], rounds="c 4")
        log = (("done",), ("num", "c", 0), ("num", "c", 1))
        self.assertEqual([word_for(waits, "r", log[:many], ("amid",)) for many in range(4)],
                         ["open", "open", "open", "surely"])
        self.assertEqual(first_known(waits, "r", ("amid",)), (log, "surely"))
        self.assertEqual([can_know(waits, "r", log[:2], ("amid",)), must_know(waits, "r", log[:2], ("amid",))], [True, False])
        self.assertIs(must_know(design=waits, name="r", log=log, question=("amid",)), True)
        self.assertIs(can_know(design=waits, name="r", log=(("done",), ("num", "c", 2)), question=("amid",)), True)
        plain = home(["k: bump c, over s p, bump c"], ["r once: num c, even 0, read s, use s p"], rounds="c 4")
        self.assertIsNone(first_known(plain, "r", ("amid",)))
        # Tries can go on for ever, and it is open whether the cell hangs there.
        tries = home(["k: take, put s"], ["r again: read s, look s, use s p, look s"])
        for log in ((), (("read", "s", ""),)):
            self.assertEqual([work(tries, "r", log, ("hangs", "s")) for work in (can_know, must_know)], [True, log == ()])

    def test_parting_logs(self):
        found = {}
        for seed in range(140):
            rng = random.Random(seed)
            design, name, beliefs = small_design(rng, 120)
            other = self.other_design(rng, design, name)
            if len(Beliefs(other, name).standings) > 300:
                continue
            told, least = parting_log(design, other, name), self.least_parting(beliefs, Beliefs(other, name))
            self.assertEqual(None if told is None else len(told), least, (str(design), str(other)))
            if told is not None:
                self.assertIs(told.__class__, tuple)
                self.assertEqual(sorted([self.fits(design, name, told), self.fits(other, name, told)]), [False, True])
            found[least] = found.get(least, 0) + 1
        self.assertGreater(found[None], 20)
        self.assertGreater(len(found), 3, found)

    def fits(self, design, name, log):
        try:
            return log_fits(design, name, log)
        except InvalidLog:
            return False

    def other_design(self, rng, design, name):
        pick = rng.randrange(5)
        if pick == 0:
            return design.with_rooms((design.rooms[0], 1 - design.rooms[1]))
        if pick == 1:
            return design.with_reuse({"any": "never", "never": "any"}[design.reuse])
        if pick == 2:
            return design.with_rounds([(one, rng.choice([None, 2, 3, 4])) for one in design.counters])
        kind = rng.choice(design.kinds)
        try:
            kind = kind.without(rng.randrange(len(kind)))
        except ValueError:
            kind = kind.with_more(len(kind), "aside")
        return Design.read(str(design.with_kind(kind)))

    def least_parting(self, one, other):
        rows, known, many = [(one.first, other.first)], set(), 1
        while rows:
            after = []
            for ours, theirs in rows:
                if set(one.rows(ours)) != set(other.rows(theirs)):
                    return many
                for row, behind in one.rows(ours).items():
                    both = (behind, other.rows(theirs)[row])
                    if None not in both and both not in known:
                        known.add(both)
                        after.append(both)
            rows, many = after, many + 1
        return None

    def test_rounds_part(self):
        lock = lock_home()
        self.assertEqual(parting_log(lock, lock.with_rounds((("c", 2),)), "r"), (("num", "c", 2),))
        self.assertEqual(parting_log(one=lock.with_rounds((("c", None),)), other=lock, name="r"), (("num", "c", 1),))
        self.assertIsNone(parting_log(lock, lock, "r"))
        error = raised(parting_log, lock, home(["k: fence"], ["n once: fence"]), "r")
        self.assertEqual((error.__class__, error.name), (NoName, "r"))
