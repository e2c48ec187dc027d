"""Any values, and small designs that several tests use."""

from unfooled.designs import Design
from unfooled.kinds import Kind
from unfooled.live import Live
from unfooled.readers import Reader

HEAD = "slots s\nparts p\nrounds -\nwide -\nrooms 0 0\nreuse any\n"


def home(kinds, readers, **lines):
    """A design told by the texts of its kinds and readers, and by lines that differ."""
    told = {"slots": "s", "parts": "p", "rounds": "-", "wide": "-", "rooms": "0 0",
            "reuse": "any"}
    told.update(lines)
    rows = [f"{word} {told[word]}" for word in told]
    return Design.read("\n".join(rows + ["kind " + kind for kind in kinds]
                                 + ["reader " + reader for reader in readers]))


def any_values():
    kind = Kind("k", ["take", "put s"])
    reader = Reader("r", ["read s"])
    design = Design(["s"], ["p"], [kind], [reader])
    deep = "s"
    for _ in range(8):
        deep = [deep]
    deeper = 1
    for _ in range(8):
        deeper = (deeper,)
    return [None, True, False, 0, 1, -1, 2, 99, 10 ** 9, "", "s", "p", "r", "k", "zz", "abcde",
            "S", "take", "step", "any", "once", "used", " ", "a b", "\n", "step 01", "next 0",
            [], (), [None], [True], ("s",), ["s"], ["p", 1], (0,), (True,), [[0]], (0, 0),
            [("c", 4)], [("s", None)], deep, deeper, kind, reader, design, Live(design),
            [kind], (reader,), [design], "kind k: take", "reader r once: read s"]


def raised(work, *given, **named):
    """The error that a call raises, or None."""
    try:
        work(*given, **named)
    except Exception as error:  # the tests ask which one
        return error
    return None
