"""Loose houses: hands whose boxes may be put back, and the loose stands that they go through."""

from meetwall.errors import NoDeed, NoHouse
from meetwall.houses import is_tuple_within, is_within, is_word

# The parts of a loose house, and those of a loose stand.
BOXES = 0
SCRIPTS = 1
PLACES = 0
NUMBERS = 1
MOST_BOXES = 6
MOST_SCRIPTS = 4
MOST_DEEDS = 30
MOST_NUMBER = 9


def is_loose_deed(thing, boxes, many_behind):
    if not is_tuple_within(thing, 2, 4) or not isinstance(thing[0], str):
        return False
    word = thing[0]
    if word == "say":
        return len(thing) == 2 and is_word(thing[1])
    if len(thing) < 3 or not is_within(thing[1], 0, boxes - 1) or not is_within(thing[2], 0, MOST_NUMBER):
        return False
    if word == "skip":
        return len(thing) == 4 and is_within(thing[3], 1, many_behind)
    if word == "raise":
        return len(thing) == 3 and thing[2] > 0
    return word in ("put", "same") and len(thing) == 3


def is_loose_script(thing, boxes):
    if not is_tuple_within(thing, 0, MOST_DEEDS):
        return False
    return all([is_loose_deed(deed, boxes, len(thing) - place - 1) for place, deed in enumerate(thing)])


def is_loose(thing):
    if not is_tuple_within(thing, 2, 2) or not is_within(thing[BOXES], 0, MOST_BOXES):
        return False
    if not is_tuple_within(thing[SCRIPTS], 1, MOST_SCRIPTS):
        return False
    return all([is_loose_script(script, thing[BOXES]) for script in thing[SCRIPTS]])


def need_loose(thing):
    if not is_loose(thing):
        raise NoHouse("this is no loose house")


# The defs from here to going are handed what was seen to be a loose house: to look anew at each step takes long.
def at_first(house):
    return (tuple([0] * len(house[SCRIPTS])), tuple([0] * house[BOXES]))


def next_deed(house, stand, hand):
    script = house[SCRIPTS][hand]
    place = stand[PLACES][hand]
    return script[place] if 0 <= place < len(script) else None


def may_go_on(house, stand, hand):
    if not is_within(hand, 0, len(house[SCRIPTS]) - 1):
        return False
    deed = next_deed(house, stand, hand)
    if deed is None:
        return False
    return deed[0] != "same" or stand[NUMBERS][deed[1]] == deed[2]


def moved(house, stand, hand):
    deed = next_deed(house, stand, hand)
    places = list(stand[PLACES])
    numbers = list(stand[NUMBERS])
    places[hand] += 1
    if deed[0] == "put":
        numbers[deed[1]] = deed[2]
    if deed[0] == "raise":
        numbers[deed[1]] = (numbers[deed[1]] + deed[2]) % (MOST_NUMBER + 1)
    if deed[0] == "skip" and numbers[deed[1]] == deed[2]:
        places[hand] += deed[3]
    return (tuple(places), tuple(numbers))


def going(house, stand):
    return [hand for hand in range(len(house[SCRIPTS])) if may_go_on(house, stand, hand)]


def first_loose(house):
    need_loose(house)
    return at_first(house)


def may_loose(house, stand):
    need_loose(house)
    return going(house, stand)


def behind_loose(house, stand, hand):
    need_loose(house)
    if not may_go_on(house, stand, hand):
        raise NoDeed("this hand may not go on")
    return moved(house, stand, hand)
