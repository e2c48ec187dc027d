"""Least roads of standings to the harms of one watched run, but back."""

from unfooled.changing import is_gone
from unfooled.frontier import BEGIN, Frontier, cost_behind
from unfooled.moves import moves
from unfooled.numbering import first_standing
from unfooled.plan import Plan

CHECKS = ("look", "same")


class Chances:
    """Which harms a run can still meet, by the scripts and by how it stands.

    What a rejected run leaves behind only hinders: so a run that is rejected is at its end here,
    and those who begin anew are told by those who begin.
    """

    def __init__(self, plan, kinds):
        words = [step[0] for step in plan.steps]
        gives = any([text.startswith("give ") for kind in kinds for text in kind.texts])
        self.plan = plan
        self.last_use = max([-1, *[at for at, word in enumerate(words) if word == "use"]])
        self.last_check = max([-1, *[at for at, word in enumerate(words) if word in CHECKS]])
        self.harms = []
        if self.last_use >= 0:
            self.harms = ["early", "torn", "used"] if gives else ["early", "torn"]
        if self.last_check >= 0 and (plan.is_any and gives or "same" in words):
            self.harms.append("fooled")

    def some_left(self, standing, wanted):
        """Whether a run can meet one of these harms from a standing on."""
        run = standing[5]
        at, past, word = run[0], run[4], run[5]
        if "fooled" in wanted and at <= self.last_check:
            return True
        if word == "spoilt":
            return False
        if at > self.last_use:
            # All is used: what some moment has is right.
            return not past and ("torn" in wanted or "early" in wanted and word == "fine")
        if "torn" in wanted or "used" in wanted:
            return True
        return "early" in wanted and word == "fine" and not is_gone(self.plan, standing[2], run)


class Roads:
    """Least roads to some harms of a reader, but back, looked for only as far as they are asked.

    `found` has for each harm that was met a road: (updates that begin, legs).
    """

    def __init__(self, design, reader, harms):
        self.name = reader.name
        self.plan = Plan(design, reader, (), False)
        self.plan.leave_aside(design.kinds, False)
        self.chances = Chances(self.plan, design.kinds)
        self.wanted = [harm for harm in self.chances.harms if harm in harms]
        self.found = {}
        self.frontier = Frontier()
        self.frontier.offer(first_standing(self.plan), 0, -1, None)

    def road_to(self, harm):
        """A least road to a harm, or None."""
        while harm in self.wanted:
            self.go_on()
        return self.found.get(harm)

    def first_met(self):
        """The harm that is met first of those that are wanted, or None."""
        while self.wanted != [] and self.found == {}:
            self.go_on()
        return min(self.found, default=None)

    def go_on(self):
        """Lead on the next standing."""
        number = self.frontier.nearest()
        if number < 0:
            # All was seen.
            self.wanted = []
        elif self.chances.some_left(self.frontier.nodes[number], self.wanted):
            self.lead_on(number)
        if self.wanted == []:
            self.frontier = Frontier()

    def lead_on(self, number):
        frontier = self.frontier
        standing = frontier.nodes[number]
        cost = frontier.costs[number]
        for label, behind, harms, _ in moves(self.plan, standing):
            if behind is not None:
                frontier.offer(behind, cost_behind(cost, label), number, label)
            for harm in harms:
                if harm in self.wanted:
                    _, way = frontier.way_to(number)
                    self.found[harm] = (cost // BEGIN, [(self.name, [*way, (standing, label)])])
                    self.wanted = [one for one in self.wanted if one != harm]
