"""Which steps of a reader can be left out."""

from unfooled.errors import InvalidReader, NoStep
from unfooled.harmless import check_harms, clears_all, harm_met, is_telling, some_story
from unfooled.lots import least_lots, without_things
from unfooled.plan import slots_marked, some_enters
from unfooled.words import is_number, is_row_of

STAYING = ("read", "use")


def numbers_droppable(reader):
    return tuple([at for at, text in enumerate(reader.texts) if text.split(" ")[0] not in STAYING])


def droppable(design, name):
    return numbers_droppable(design.reader(name))


def dropped(design, name, numbers):
    reader = design.reader(name)
    # From the last one on, so that numbers ahead stay, and a check goes ahead of its steps.
    for number in sorted(numbers, reverse=True):
        reader = reader.without(number)
    return design.with_reader(reader)


def dropped_or_none(design, name, numbers):
    """The design without these steps, or None if the rest is no reader."""
    try:
        return dropped(design, name, numbers)
    except InvalidReader:
        return None


class Leaning:
    """A design, one reader of which is to have fewer steps."""

    def __init__(self, design, name, harms):
        self.design = design
        self.name = name
        self.harms = harms
        self.can_drop = droppable(design, name)
        # Whether the others are clear, by what they can know of this reader.
        self.known = {}

    def is_clear_without(self, numbers):
        """Whether there is a reader without these steps, and the design is clear with it."""
        design = dropped_or_none(self.design, self.name, numbers)
        if design is None or not self.others_are_clear(design):
            return False
        return harm_met(design, design.reader(self.name), self.harms) is None

    def is_enough(self, lot):
        return self.is_clear_without(without_things(self.can_drop, lot))

    def others_are_clear(self, design):
        key = (some_enters(design.readers), tuple(sorted(slots_marked(design.readers))))
        if key not in self.known:
            self.known[key] = self.are_clear(design)
        return self.known[key]

    def are_clear(self, design):
        for reader in design.readers:
            if reader.name != self.name and harm_met(design, reader, self.harms) is not None:
                return False
        return True


def needless(design, name, harms):
    check_harms(harms)
    leaning = Leaning(design, name, harms)
    if not leaning.is_clear_without(()):
        return ()
    return tuple([number for number in leaning.can_drop if leaning.is_clear_without((number,))])


def lean_lots(design, name, harms):
    check_harms(harms)
    leaning = Leaning(design, name, harms)
    return least_lots(leaning.can_drop, lambda lot: leaning.is_enough(lot))


def check_droppable(design, name, number):
    """The error for any value that is no number of a step that can be dropped."""
    numbers = droppable(design, name)
    if not is_number(number) or number not in numbers:
        raise NoStep(number)


def kept_off(design, name, number, harms):
    check_harms(harms)
    check_droppable(design, name, number)
    without = dropped_or_none(design, name, (number,))
    if without is None or not clears_all(design, harms):
        return None
    return some_story(without, harms)


def kept_off_holds(design, name, number, harms, value):
    check_harms(harms)
    check_droppable(design, name, number)
    without = dropped_or_none(design, name, (number,))
    if without is None or not is_row_of(value, 3):
        return False
    return is_telling(without, harms, value[0], value[1], value[2]) and clears_all(design, harms)
