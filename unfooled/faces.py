"""Faces: the same house without contents, or without cells that come back."""

from unfooled.designs import Design
from unfooled.faults import faults_of
from unfooled.readers import Reader

BARE = "zz"


def bare_text(text):
    """The text of a step; a use is one of the part that no kind writes."""
    words = text.split(" ")
    return f"use {words[1]} {BARE}" if words[0] == "use" else text


def safe_face(design):
    readers = [Reader(reader.name, [bare_text(text) for text in reader.texts], reader.word)
               for reader in design.readers]
    return Design(design.slots, [*design.parts, BARE], design.kinds, readers,
                  design.rounds, design.wide, design.rooms, design.reuse)


def whole_face(design):
    return design.with_reuse("never")


def joint(design, name):
    found = faults_of(design, name)
    whole = faults_of(whole_face(design), name)
    if "used" in faults_of(safe_face(design), name) or "early" in whole or "torn" in whole:
        return ()
    return tuple([harm for harm in found if harm in ("early", "torn", "used")])
