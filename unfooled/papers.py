"""Certificates: all standings that come about, if none of them meets a harm."""

from unfooled.errors import InvalidHarm
from unfooled.graph import graph_of, graph_without
from unfooled.plan import Plan

HARMS = ("early", "fooled", "torn", "used")


def certificate(design, name, harm):
    reader = design.reader(name)
    if not isinstance(harm, str) or harm not in HARMS:
        raise InvalidHarm()
    graph = graph_without(Plan(design, reader, ()), harm)
    return None if graph is None else tuple(graph.standings)


def texts_of(standings):
    """Texts by which plain values are the same just if they are alike, bools and numbers, too."""
    return {repr(standing): True for standing in standings}


def certifies(design, name, harm, value):
    told = certificate(design, name, harm)
    if told is None or not isinstance(value, tuple):
        return False
    texts = texts_of(told)
    given = texts_of(value)
    return len(given) == len(texts) and all([text in texts for text in given])


def is_standing(design, name, value):
    graph = graph_of(Plan(design, design.reader(name), ()))
    return isinstance(value, tuple) and repr(value) in texts_of(graph.standings)
