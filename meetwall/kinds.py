"""Kinds: four made walls of boxes alone, for so many hands and so many phases."""

from meetwall.errors import NoWall
from meetwall.houses import is_house, is_within
from meetwall.made import MOST_MEETERS, MOST_PHASES

KINDS = ("shared", "own", "spread", "tree")


def shared_deeds(n, number, phase):
    return [("raise", 0, 1), ("await", 0, n * (phase + 1))]


def own_deeds(n, number, phase):
    others = [other for other in range(n) if other != number]
    return [("raise", number, 1)] + [("await", other, phase + 1) for other in others]


# In each round a hand hears from twice as far as in the one ahead.
def spread_deeds(n, number, phase):
    deeds = []
    first_box = 0
    far = 1
    while far < n:
        deeds.append(("raise", first_box + number, 1))
        deeds.append(("await", first_box + (number - far) % n, phase + 1))
        first_box += n
        far *= 2
    return deeds


def tree_deeds(n, number, phase):
    below = [other for other in (2 * number + 1, 2 * number + 2) if other < n]
    deeds = [("await", other, phase + 1) for other in below] + [("raise", number, 1)]
    return deeds if number == 0 else deeds + [("await", 0, phase + 1)]


def met_by(kind, n, number, phase):
    if kind == "shared":
        return shared_deeds(n, number, phase)
    if kind == "own":
        return own_deeds(n, number, phase)
    if kind == "spread":
        return spread_deeds(n, number, phase)
    return tree_deeds(n, number, phase)


def script_of(kind, n, number, p):
    deeds = []
    for phase in range(p):
        deeds.append(("say", "come"))
        deeds.extend(met_by(kind, n, number, phase))
        deeds.append(("say", "go"))
    return tuple(deeds)


# There are as many without phases, when no deed tells of them.
def boxes_of(kind, n):
    if kind == "shared":
        return 1
    return n * (n - 1).bit_length() if kind == "spread" else n


def made(kind, n, p):
    if kind not in KINDS:
        raise NoWall("there is no such kind of walls")
    if not is_within(n, 1, MOST_MEETERS) or not is_within(p, 0, MOST_PHASES):
        raise NoWall("no wall is made for so many hands and phases")
    firsts = tuple([(number, ()) for number in range(n)])
    scripts = tuple([script_of(kind, n, number, p) for number in range(n)])
    house = (boxes_of(kind, n), 0, firsts, scripts)
    if not is_house(house):
        raise NoWall("the wall would be no house")
    return house
