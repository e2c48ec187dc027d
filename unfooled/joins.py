"""Designs that are joined: what the one's updates do to the other one's readers."""

from unfooled.beside import entering, enters
from unfooled.designs import Design
from unfooled.errors import InvalidHarm
from unfooled.faults import happens
from unfooled.harmless import is_harm
from unfooled.kinds import Kind
from unfooled.lots import least_lots, meeting_lots, without_things
from unfooled.papers import HARMS

SHADOWS = ("aside", "move", "try", "wait", "give")


def joined_kinds(one, other, kinds):
    """Both designs joined, but with these kinds of the other one alone."""
    return Design([*one.slots, *other.slots], sorted(set([*one.parts, *other.parts])), [*one.kinds, *kinds],
                  [*one.readers, *other.readers], [*one.rounds, *other.rounds], [*one.wide, *other.wide],
                  one.rooms, one.reuse)


def joined(one, other):
    return joined_kinds(one, other, other.kinds)


def shadow(kind):
    texts = [text for text in kind.texts if text.split(" ")[0] in SHADOWS]
    return None if texts == [] else Kind(kind.name, texts)


def shaded(one, other):
    kinds = [shadow(kind) for kind in other.kinds]
    readers = [entering(reader) for reader in other.readers if enters(reader)]
    return Design(one.slots, one.parts, [*one.kinds, *[kind for kind in kinds if kind is not None]],
                  [*one.readers, *readers], one.rounds, one.wide, one.rooms, one.reuse)


def across(one, other):
    whole = joined(one, other)
    found = [(reader.name, harm) for own in (one, other) for reader in own.readers for harm in HARMS
             if happens(whole, reader.name, harm) and not happens(own, reader.name, harm)]
    return tuple(sorted(found))


def names_of_kinds(design):
    return tuple(sorted([kind.name for kind in design.kinds]))


def happens_with(one, other, name, harm, lot):
    """Whether a harm happens to a reader of the one beside these kinds of the other one."""
    kinds = [kind for kind in other.kinds if kind.name in lot]
    return happens(joined_kinds(one, other, kinds), name, harm)


def guilty(one, other, name, harm):
    one.reader(name)
    if not is_harm(harm):
        raise InvalidHarm()
    names = names_of_kinds(other)
    if not happens_with(one, other, name, harm, names):
        return ()
    return least_lots(names, lambda lot: happens_with(one, other, name, harm, lot))


def calm_kinds(one, other, name, harm):
    names = names_of_kinds(other)
    # A lot is calm just if those that are left have something of each guilty one.
    left = meeting_lots(names, guilty(one, other, name, harm))
    calm = [without_things(names, lot) for lot in left]
    return tuple(sorted(calm, key=lambda lot: (len(lot), lot)))
