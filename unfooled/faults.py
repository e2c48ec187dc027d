"""Which harms can be met, by which histories, and by how few updates."""

from unfooled.errors import InvalidHarm
from unfooled.plan import Plan
from unfooled.roads import harms_met, road_back, road_to, users
from unfooled.telling import history_of

HARMS = ("back", "early", "fooled", "torn", "used")


def harms_but_back(design, reader):
    return harms_met(Plan(design, reader, ()))


def least_road(design, name, harm):
    """A least road to the harm: (updates that begin, legs), or None."""
    reader = design.reader(name)
    if not isinstance(harm, str) or harm not in HARMS:
        raise InvalidHarm()
    if harm == "back":
        return road_back(design, reader, users(design))
    return road_to(Plan(design, reader, ()), reader, harm)


def happens(design, name, harm):
    return least_road(design, name, harm) is not None


def faults_of(design, name):
    reader = design.reader(name)
    found = harms_but_back(design, reader)
    return found if road_back(design, reader, users(design)) is None else ("back", *found)


def faults(design):
    found = {}
    early = []
    for reader in design.readers:
        harms = harms_but_back(design, reader)
        if "early" in harms:
            early.append(reader)
        for harm in harms:
            found[harm] = True
    for reader in design.readers:
        # Who is never early never leads others back.
        if road_back(design, reader, early) is not None:
            found["back"] = True
    return tuple(sorted(found))


def story(design, name, harm):
    road = least_road(design, name, harm)
    return None if road is None else history_of(design, road[1])


def fewest(design, name, harm):
    road = least_road(design, name, harm)
    return None if road is None else road[0]
