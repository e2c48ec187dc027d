"""What the interface lists stands in the files that it names, with these arguments."""

import ast
import os
import random
import unittest

import unfooled
from tests.making import random_design
from unfooled.again import grade, height_paper, rejected_road, rejections
from unfooled.designs import Design
from unfooled.faults import faults, faults_of, fewest, story
from unfooled.fences import least_fences
from unfooled.lags import lag
from unfooled.logs import can_know, first_known, log_paper, next_rows, story_of, unlike_stories, word_for
from unfooled.papers import certificate
from unfooled.spares import most_steps, tries_needed

FOLDER = os.path.dirname(unfooled.__file__)
LISTED = """
alone: after(design, names), rows_apart(design, names, others)
alike: asks(reader), idle(reader), reason(reader, at), reason_holds(reader, at, value)
alike: refusing_answers(reader, at), trimmed(reader), soonest(reader), accepts_same(one, other)
alike: parting_answers(one, other), no_later(one, other)
stage: play(design, events), possible(design, events)
watched: beginning(design, name), led_on(design, name, standing)
faults: happens(design, name, harm), faults_of(design, name), faults(design), story(design, name, harm)
faults: fewest(design, name, harm)
papers: certificate(design, name, harm), certifies(design, name, harm, value), is_standing(design, name, value)
faces: safe_face(design), whole_face(design), joint(design, name)
moments: moments(design, events), over_now(design, events), stretch(design, events, place)
moments: fits(design, events, used), bar(design, events, used), bar_holds(design, events, used, value)
moments: judged(design, events), counted(design, events), backs(design, events)
moments: told_in_order(design, events), lags_of(design, events)
lags: lag(design, name), lag_road(design, name, many)
turns: greatest_in(told), is_in(told, number), numbers_told(some, tail, period, rests)
turns: puts_amid(design, name, at), turns_amid(design, name, at)
layers: layer_paper(design, name, at), layers_hold(design, name, at, told, value)
layers: put_layers_hold(design, name, at, told, value), put_paper(design, name, at)
turnroads: put_road(design, name, at, number), turn_road(design, name, at, number)
rounds: fooled_checks(design, name), is_safe_round(told, by), least_round(told), least_rounds(design)
rounds: safe_rounds(told), with_least_rounds(design)
heaps: empty_pile(design), piles_within(design, pile, name), pile_after(design, pile, name), heap(design)
heaps: heap_road(design, most), growing(design), growth(design, name), heap_paper(design, most)
heaps: heap_holds(design, most, value), soonest_back(design, slot), soonest_back_road(design, slot)
stays: shown(design, name, at), stay(design, name, at), all_stays(design, name), easy(design)
stays: kept(design, name), heap_by(design, many)
buffers: places(design), rooms_enough(design)
fences: fenced(design, lot), is_clear(design, harms), is_fenced(design, harms, lot), least_fences(design, harms)
fences: fence_cuts(design, harms), fence_paper(design, harms, lot), fence_paper_holds(design, harms, lot, value)
lean: droppable(design, name), dropped(design, name, numbers), needless(design, name, harms)
lean: lean_lots(design, name, harms), kept_off(design, name, number, harms)
lean: kept_off_holds(design, name, number, harms, value)
again: grade(design, reader), gets_on(design, reader), most_rejected(design, reader, updates)
again: rejected_road(design, reader, updates), rejections(design, reader), height_paper(design, reader)
again: heights_hold(design, reader, pair, value), ring_road(design, reader, times)
spares: is_sure(design, reader, tries), most_steps(design, reader, tries), tries_needed(design, reader)
spares: longest_rejected(design, reader)
beside: behind(one, other, name), with_both(design, one, other, name), are_one(design, one, other)
beside: two_moments(design, one, other), bridges(design, one, other), bridged(design, one, other, lot)
beside: least_bridges(design, one, other), felt(design, name)
joins: joined(one, other), shadow(kind), shaded(one, other), across(one, other), guilty(one, other, name, harm)
joins: calm_kinds(one, other, name, harm)
logs: log_fits(design, name, log), log_paper(design, name, log), log_holds(design, name, log, value)
logs: next_rows(design, name, log), story_of(design, name, log), word_for(design, name, log, question)
logs: unlike_stories(design, name, log, question), first_known(design, name, question)
logs: can_know(design, name, log, question), must_know(design, name, log, question), parting_log(one, other, name)
changes: changed(design, name, change), led_back(design, name, change), single_changes(design, name)
changes: effect(design, name, change), breaking(design, name), mending(design, name)
"""

METHODS = """
kinds Kind: __init__(self, name, texts); read(text); without(self, at); with_more(self, at, text)
kinds Kind: __len__(self); __str__(self); __eq__(self, other)
readers Reader: __init__(self, name, texts, word='once'); read(text); without(self, at); with_more(self, at, text)
readers Reader: with_word(self, word); __len__(self); __str__(self); __eq__(self, other)
designs Design: __init__(self, slots, parts, kinds, readers, rounds=(), wide=(), rooms=(0, 0), reuse='any')
designs Design: read(text); kind(self, name); reader(self, name); with_kind(self, kind); with_reader(self, reader)
designs Design: with_rounds(self, rounds); with_wide(self, wide); with_rooms(self, rooms); with_reuse(self, reuse)
designs Design: __str__(self); __eq__(self, other)
live Live: __init__(self, design); events(self); played(self); do(self, event); several(self, events); can(self)
live Live: undo(self); within(self, work); __len__(self)
desk Desk: __init__(self); say(self, command)
stage Played:
alone Still:
"""


def listed():
    """Rows (file, what it has to define)."""
    for line in LISTED.strip().split("\n"):
        file, texts = line.split(": ")
        for text in texts.split("), "):
            yield file, text.rstrip(")") + ")"


def methods_listed():
    """Rows (file, class, its methods)."""
    for line in METHODS.strip().split("\n"):
        head, texts = line.split(":", 1)
        yield *head.split(" "), [text.strip() for text in texts.split(";") if text]


class Interface(unittest.TestCase):
    def test_methods(self):
        for file, word, texts in methods_listed():
            with open(os.path.join(FOLDER, file + ".py"), encoding="utf-8") as told:
                tree = ast.parse(told.read())
            body = [node for node in tree.body if isinstance(node, ast.ClassDef) and node.name == word][0].body
            found = [f"{node.name}({ast.unparse(node.args)})" for node in body if isinstance(node, ast.FunctionDef)]
            self.assertLessEqual(set(texts), set(found), word)

    def test_functions(self):
        for file, text in listed():
            with open(os.path.join(FOLDER, file + ".py"), encoding="utf-8") as told:
                tree = ast.parse(told.read())
            found = [f"{node.name}({ast.unparse(node.args)})" for node in tree.body
                     if isinstance(node, ast.FunctionDef)]
            self.assertIn(text, found, file)

    def test_results_do_not_hang_on_calls_between(self):
        """What is kept of a design changes nothing that is told."""
        for seed in range(40):
            design = random_design(random.Random(seed), reader_steps=5)
            calls = [lambda one, name=reader.name, work=work: work(one, name)
                     for reader in design.readers for work in (faults_of, lag)]
            calls += [lambda one, name=reader.name, harm=harm, work=work: work(one, name, harm)
                      for reader in design.readers for harm in ("early", "fooled", "torn", "used")
                      for work in (fewest, story, certificate)] + [faults]
            calls += [lambda one, name=reader.name, work=work: work(one, name)
                      for reader in design.readers for work in (grade, rejections, height_paper, tries_needed)]
            calls += [lambda one, name=reader.name, work=work: work(one, name, 2)
                      for reader in design.readers for work in (rejected_road, most_steps)]
            calls += [lambda one, name=reader.name, work=work: work(one, name, ())
                      for reader in design.readers for work in (next_rows, log_paper, story_of)]
            calls += [lambda one, name=reader.name, work=work, more=more: work(one, name, *more)
                      for reader in design.readers for question in (("good",), ("amid",))
                      for work, more in ((first_known, (question,)), (can_know, ((), question)),
                                         (unlike_stories, ((), question)), (word_for, ((), question)))]
            calls += [lambda one, name=reader.name: log_paper(one, name, next_rows(one, name, ())[-1:])
                      for reader in design.readers] + [lambda one: least_fences(one, ("used",))]
            random.Random(seed).shuffle(calls)
            told = [call(Design.read(str(design))) for call in calls]
            self.assertEqual([call(design) for call in calls], told)
            self.assertEqual([call(design) for call in reversed(calls)], told[::-1])
            self.assertEqual(design, Design.read(str(design)))
