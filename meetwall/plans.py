"""Plans: what a house tells of each hand that may ever be, whatever the weaving."""

from meetwall.errors import NoDeed, NoHand
from meetwall.houses import FIRSTS, SCRIPTS, is_whole, is_within, need_house


def is_name(thing):
    return isinstance(thing, tuple) and all([is_whole(part) for part in thing])


class Role:
    def __init__(self, calling, script, call):
        self.calling = calling
        self.script = script
        # The deed that begins this hand; None for a first one.
        self.call = call
        # From the places of its begins to the hands that they begin.
        self.begins = {}
        # Of each deed what its box or wall must have come to; None where it is always done.
        self.needs = []
        # From the walls at which others wait for it to how often it came there when it is called.
        self.came = {}


def need_of(deed, tally):
    if deed[0] == "await":
        return deed[2]
    if deed[0] == "go":
        return tally.get(deed, 0) + 1
    return None


class Plan:
    def __init__(self, house):
        self.house = house
        self.roles = {}
        for number, calling in enumerate(house[FIRSTS]):
            self.enter((number,), calling, None, {})

    # A begun hand counts on from where its beginner is at the begin, so each has a tally of its own.
    def enter(self, hand, calling, call, tally):
        role = Role(calling, self.house[SCRIPTS][calling[0]], call)
        self.roles[hand] = role
        for wall, mode in calling[1]:
            if mode != "go":
                role.came[wall] = tally.get(("come", wall), 0)
        for place, deed in enumerate(role.script):
            role.needs.append(need_of(deed, tally))
            if deed[0] == "begin":
                begun = hand + (len(role.begins),)
                role.begins[place] = begun
                self.enter(begun, deed[1:], (hand, place), dict(tally))
            if deed[0] in ("come", "go"):
                tally[deed] = tally.get(deed, 0) + 1

    def at_first(self):
        return dict([(hand, 0) for hand, role in self.roles.items() if role.call is None])

    def is_called(self, hand, stand):
        call = self.roles[hand].call
        return call is None or stand.get(call[0], 0) > call[1]

    def every_deed(self):
        names = []
        for hand in sorted(self.roles):
            names.extend([(hand, place) for place in range(len(self.roles[hand].script))])
        return names

    def what(self, name):
        return self.roles[name[0]].script[name[1]]


def plan_of(house):
    need_house(house)
    return Plan(house)


def need_deeds(plan, names):
    if not all([is_name(name[0]) and name[0] in plan.roles for name in names]):
        raise NoHand("there can't ever be such a hand")
    if not all([is_within(name[1], 0, len(plan.roles[name[0]].script) - 1) for name in names]):
        raise NoDeed("the hand has no such deed")
