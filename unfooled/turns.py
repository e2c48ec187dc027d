"""How often a number can turn while a reader is under way."""

from unfooled.layering import Layers
from unfooled.stands import question_of


def is_in(told, number):
    below, tail, period, rests = told
    return number in below if number < tail else (number - tail) % period in rests


def greatest_in(told):
    below, _, _, rests = told
    return None if below == () or rests != () else below[-1]


def least_period(period, rests):
    """The least part of a period by which the rests come round."""
    known = {rest: True for rest in rests}
    for by in range(1, period):
        if period % by == 0 and all([(rest + by) % period in known for rest in rests]):
            return by
    return period


def numbers_told(some, tail, period, rests):
    by = least_period(period, rests)
    left = tuple(sorted(set([rest % by for rest in rests])))
    told = (tuple(sorted(set([number for number in some if number < tail]))), tail, by, left)
    while tail > 0 and is_in(told, tail - 1) == is_in(told, tail - 1 + by):
        tail = tail - 1
        # Rests are counted from the tail on: with a lesser tail they are greater by 1.
        left = tuple(sorted([(rest + 1) % by for rest in left]))
        told = (tuple([number for number in told[0] if number < tail]), tail, by, left)
    return told


def numbers_amid(question):
    layers = Layers(question)
    asked = layers.asked()
    rests = [number - layers.back for number in asked if number >= layers.back]
    return numbers_told(asked, layers.back, len(layers.lots) - layers.back, rests)


def turns_amid(design, name, at):
    return numbers_amid(question_of(design, name, at, "same"))


def puts_amid(design, name, at):
    return numbers_amid(question_of(design, name, at, "look"))
