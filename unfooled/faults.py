"""Which harms can be met, by which histories, and by how few updates."""

from unfooled.backs import early_seats, road_back
from unfooled.errors import InvalidHarm
from unfooled.roads import Roads
from unfooled.telling import history_of

HARMS = ("back", "early", "fooled", "torn", "used")


def roads_of(design, reader):
    """The roads to the harms of a reader, but back."""
    roads = design.memory.roads
    if reader.name not in roads:
        roads[reader.name] = Roads(design, reader, HARMS)
    return roads[reader.name]


def seats_of(design):
    """For each reader who can be early the seats of those who come then."""
    seats = design.memory.seats
    for reader in design.readers:
        if reader.name not in seats and roads_of(design, reader).road_to("early") is not None:
            seats[reader.name] = early_seats(design, reader)
    return seats


def way_back(design, reader):
    """A least road to the harm back, or None."""
    ways = design.memory.ways_back
    if reader.name not in ways:
        # Who uses nothing fits to all moments; who is never early never leads others back.
        ways[reader.name] = None if reader.parts == () else road_back(design, reader, seats_of(design))
    return ways[reader.name]


def road_for(design, reader, harm):
    """A least road to the harm: (updates that begin, legs), or None."""
    return way_back(design, reader) if harm == "back" else roads_of(design, reader).road_to(harm)


def least_road(design, name, harm):
    reader = design.reader(name)
    if not isinstance(harm, str) or harm not in HARMS:
        raise InvalidHarm()
    return road_for(design, reader, harm)


def happens(design, name, harm):
    return least_road(design, name, harm) is not None


def faults_of(design, name):
    reader = design.reader(name)
    return tuple([harm for harm in HARMS if road_for(design, reader, harm) is not None])


def happens_to_some(design, harm):
    for reader in design.readers:
        if road_for(design, reader, harm) is not None:
            return True
    return False


def faults(design):
    return tuple([harm for harm in HARMS if happens_to_some(design, harm)])


def story(design, name, harm):
    road = least_road(design, name, harm)
    return None if road is None else history_of(design, road[1])


def fewest(design, name, harm):
    road = least_road(design, name, harm)
    return None if road is None else road[0]
