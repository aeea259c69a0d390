"""Stands: how many deeds each hand has done, what lies in the boxes, what is lifted, and who may go on."""

from meetwall.errors import NoDeed, NoHand, NoStand, NoWall
from meetwall.houses import BOXES, FIRSTS, SCRIPTS, WALLS, is_wall, is_whole, is_within, need_house


def is_name(thing):
    return isinstance(thing, tuple) and all([is_whole(part) for part in thing])


def is_tally(thing):
    if not isinstance(thing, dict):
        return False
    return all([is_name(hand) and is_whole(done) for hand, done in thing.items()])


def begun_by(hand, deeds):
    callings = [deed[1:] for deed in deeds if deed[0] == "begin"]
    return [(hand + (number,), calling) for number, calling in enumerate(callings)]


# One walk for all hands that may ever be and for those of a stand: only what counts as done differs.
def called(house, done_of):
    callings = {}
    layer = [((number,), calling) for number, calling in enumerate(house[FIRSTS])]
    while layer:
        below = []
        for hand, calling in layer:
            callings[hand] = calling
            below.extend(begun_by(hand, done_of(hand, house[SCRIPTS][calling[0]])))
        layer = below
    return callings


def called_in(house, stand):
    return called(house, lambda hand, script: script[:stand.get(hand, 0)])


class Scene:
    def __init__(self, house, stand):
        self.house = house
        self.stand = stand
        self.callings = called_in(house, stand)
        self.sums = self.summed()
        self.lifts = [self.least_come(wall) for wall in range(house[WALLS])]

    def script_of(self, hand):
        return self.house[SCRIPTS][self.callings[hand][0]]

    def deeds_done(self, hand):
        return self.script_of(hand)[:self.stand[hand]]

    def deeds_left(self, hand):
        return self.script_of(hand)[self.stand[hand]:]

    def summed(self):
        sums = [0] * self.house[BOXES]
        for hand in self.stand:
            for deed in self.deeds_done(hand):
                if deed[0] == "raise":
                    sums[deed[1]] += deed[2]
        return sums

    # A begun hand counts on from where its beginner was at the begin, however far that one is now.
    def times(self, hand, deeds, deed):
        own = deeds.count(deed)
        if len(hand) == 1:
            return own
        beginner = hand[:-1]
        script = self.script_of(beginner)
        begins = [place for place, other in enumerate(script) if other[0] == "begin"]
        return own + self.times(beginner, script[:begins[hand[-1]]], deed)

    def holds_down(self, hand, wall):
        if dict(self.callings[hand][1]).get(wall) not in ("both", "come"):
            return False
        return len(self.deeds_left(hand)) > 0 and ("leave", wall) not in self.deeds_done(hand)

    def least_come(self, wall):
        holders = [hand for hand in self.stand if self.holds_down(hand, wall)]
        return min([self.times(hand, self.deeds_done(hand), ("come", wall)) for hand in holders], default=None)

    def may_do(self, hand, deed):
        if deed[0] == "await":
            return self.sums[deed[1]] >= deed[2]
        if deed[0] == "go":
            lift = self.lifts[deed[1]]
            return lift is None or lift > self.times(hand, self.deeds_done(hand), deed)
        return True

    def may_go_on(self, hand):
        left = self.deeds_left(hand)
        return len(left) > 0 and self.may_do(hand, left[0])


def scene_of(house, stand):
    if not is_stand(house, stand):
        raise NoStand("this is no stand of the house")
    return Scene(house, stand)


def hands(house):
    need_house(house)
    return called(house, lambda hand, script: script)


def first_stand(house):
    need_house(house)
    return dict([((number,), 0) for number in range(len(house[FIRSTS]))])


def is_stand(house, thing):
    need_house(house)
    if not is_tally(thing):
        return False
    callings = called_in(house, thing)
    if len(callings) != len(thing):
        return False
    return all([is_within(thing.get(hand), 0, len(house[SCRIPTS][calling[0]])) for hand, calling in callings.items()])


def numbers(house, stand):
    return scene_of(house, stand).sums


def lifted(house, stand, wall):
    scene = scene_of(house, stand)
    if not is_wall(wall, house):
        raise NoWall("there is no such wall")
    return scene.lifts[wall]


def may_go(house, stand):
    scene = scene_of(house, stand)
    return sorted([hand for hand in stand if scene.may_go_on(hand)])


def behind(house, stand, hand):
    scene = scene_of(house, stand)
    if not is_name(hand) or hand not in stand:
        raise NoHand("there is no such hand in this stand")
    if not scene.may_go_on(hand):
        raise NoDeed("this hand may not go on")
    later = dict(stand)
    later[hand] += 1
    if scene.deeds_left(hand)[0][0] == "begin":
        begun = begun_by(hand, scene.deeds_done(hand))
        later[hand + (len(begun),)] = 0
    return later
