"""One watched reader: all that counts of the house beside it, and what can come next."""

from unfooled.moves import moves
from unfooled.plan import Plan
from unfooled.sight import first_standing


def beginning(design, name):
    return first_standing(Plan(design, design.reader(name), ()))


def led_on(design, name, standing):
    return tuple(moves(Plan(design, design.reader(name), ()), standing))
