"""What was worked out of a design, kept so that it is worked out once."""


class Memory:
    """For each reader, by its name, what was found; what is told of a design hangs on it alone,
    so nothing is ever forgotten or replaced by something else."""

    def __init__(self):
        # The plans by which standings are led on.
        self.plans = {}
        # All standings and moves.
        self.graphs = {}
        # Least roads to the harms but back, by harms; and roads to the harm back, None for none.
        self.roads = {}
        self.ways_back = {}
        # The design in which the reader's word is again; all standings and moves, uses left aside.
        self.again = {}
        self.retries = {}
        # What it sees, with and without what it uses; and which standings are good for its try.
        self.sights = {}
        self.goods = {}
        # The seats of those who come as a run of this reader was early.
        self.seats = {}
