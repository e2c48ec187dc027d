"""One watched reader: all that counts of the house beside it, and what can come next."""

from unfooled.moves import moves
from unfooled.numbering import first_standing
from unfooled.plan import Plan


def plan_of(design, name):
    """The plan of a reader as it is watched, made once for each design."""
    reader = design.reader(name)
    plans = design.memory.plans
    if name not in plans:
        plans[name] = Plan(design, reader, (), reader.word == "again")
    return plans[name]


def beginning(design, name):
    return first_standing(plan_of(design, name))


def led_on(design, name, standing):
    return tuple(moves(plan_of(design, name), standing))
