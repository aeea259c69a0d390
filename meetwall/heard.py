"""Heard: of whom a deed has heard in plain houses without walls, and through how many awaits in a row."""

from meetwall.errors import NoWall
from meetwall.houses import WALLS
from meetwall.made import is_plain
from meetwall.moments import Sheet, soonest
from meetwall.plans import plan_of


# In a plain house only one hand raises a box, so an await is let be done by the same raise in every weaving. What
# must come ahead of a deed is then what lies on the ways back from it: through the deeds of its hand, through the
# begins that call, and through these raises.
class Web:
    def __init__(self, house):
        plan = plan_of(house)
        if house[WALLS] > 0 or not is_plain(house):
            raise NoWall("this is no plain house without walls")
        rows = soonest(plan)
        self.sheet = Sheet(plan, rows)
        # In the order of a weaving: all that must come ahead of a deed stands ahead of it.
        self.names = [row[:2] for row in rows]

    def straight_ahead(self, name):
        return [one for one in (self.sheet.source(name), self.sheet.lets.get(name)) if one is not None]

    def is_await(self, name):
        return self.sheet.plan.what(name)[0] == "await"


def heard(house):
    web = Web(house)
    told = {}
    for name in web.names:
        # Its own hand, or the first one that began it, whose first deed is ahead of all that it brings.
        numbers = [name[0][0]]
        for one in web.straight_ahead(name):
            numbers.extend(told[one])
        told[name] = sorted(set(numbers))
    return told


def heights(house):
    web = Web(house)
    told = {}
    for name in web.names:
        ahead = max([told[one] for one in web.straight_ahead(name)], default=0)
        told[name] = ahead + 1 if web.is_await(name) else ahead
    return told
