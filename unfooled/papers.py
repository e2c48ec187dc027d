"""Certificates: all standings that come about, if none of them meets a harm."""

from unfooled.errors import InvalidHarm
from unfooled.faults import happens
from unfooled.graph import graph_of

HARMS = ("early", "fooled", "torn", "used")


def cannot_happen(design, name, harm):
    """Whether a harm other than back is not met; the errors for other values."""
    design.reader(name)
    if not isinstance(harm, str) or harm not in HARMS:
        raise InvalidHarm()
    return not happens(design, name, harm)


def certificate(design, name, harm):
    return tuple(graph_of(design, name).standings) if cannot_happen(design, name, harm) else None


def certifies(design, name, harm, value):
    if not cannot_happen(design, name, harm) or not isinstance(value, tuple):
        return False
    texts = graph_of(design, name).all_texts()
    given = {repr(standing): True for standing in value}
    return len(given) == len(texts) and all([text in texts for text in given])


def is_standing(design, name, value):
    texts = graph_of(design, name).all_texts()
    return isinstance(value, tuple) and repr(value) in texts
