"""Loose walls: whether hands whose boxes may be put back ever pass early or are left waiting."""

from meetwall.errors import NoWall, TooMany
from meetwall.houses import is_tuple_within, is_within, said_in
from meetwall.loose import (MOST_NUMBER, NUMBERS, PLACES, SCRIPTS, at_first, going, may_go_on, moved, need_loose,
                            next_deed)
from meetwall.reach import rows_to_all

MOST_PHASES = 15
MOST_STANDS = 3000


def skips_a_say(script):
    for place, deed in enumerate(script):
        if deed[0] == "skip" and said_in(script[place + 1:place + 1 + deed[3]]):
            return True
    return False


def is_loose_wall(house, p):
    if not is_within(p, 0, MOST_PHASES):
        return False
    wanted = ["come", "go"] * p
    return all([said_in(script) == wanted and not skips_a_say(script) for script in house[SCRIPTS]])


def need_loose_wall(house, p):
    need_loose(house)
    if not is_loose_wall(house, p):
        raise NoWall("this is no loose wall of so many phases")


# No skip leaves out a say: where a hand is tells how often it said the word.
def times_said(house, stand, word):
    done = [script[:place] for script, place in zip(house[SCRIPTS], stand[PLACES], strict=True)]
    return [deeds.count(("say", word)) for deeds in done]


def is_early_go(house, stand, hand):
    if next_deed(house, stand, hand) != ("say", "go"):
        return False
    return times_said(house, stand, "go")[hand] >= min(times_said(house, stand, "come"))


def has_early(house, stand):
    return max(times_said(house, stand, "go")) > min(times_said(house, stand, "come"))


def has_done_all(house, stand):
    return list(stand[PLACES]) == [len(script) for script in house[SCRIPTS]]


def stops(house, stand):
    return len(going(house, stand)) == 0 and not has_done_all(house, stand)


def steps_from(house, stand):
    return [(hand, moved(house, stand, hand)) for hand in going(house, stand)]


# The stand behind the weaving; None where it is none.
def stand_by(house, weaving):
    if not isinstance(weaving, list):
        return None
    stand = at_first(house)
    for hand in weaving:
        if not may_go_on(house, stand, hand):
            return None
        stand = moved(house, stand, hand)
    return stand


# Both walk the shorter weavings first, so that the first one found is of the fewest deeds; None where there is none.
def early_weaving(house, rows):
    for stand, row in rows.items():
        early = [hand for hand in going(house, stand) if is_early_go(house, stand, hand)]
        if early:
            return row + early[:1]
    return None


def stuck_weaving(house, rows):
    for stand, row in rows.items():
        if stops(house, stand):
            return row
    return None


def tried_loose(house, p):
    need_loose_wall(house, p)
    rows = rows_to_all(at_first(house), lambda stand: steps_from(house, stand), MOST_STANDS)
    if len(rows) > MOST_STANDS:
        raise TooMany("weavings come to more than 3000 stands")
    early = early_weaving(house, rows)
    if early is not None:
        return ("early", early)
    stuck = stuck_weaving(house, rows)
    if stuck is not None:
        return ("stuck", stuck)
    return ("holds", list(rows))


def is_early(house, p, weaving):
    need_loose_wall(house, p)
    if not isinstance(weaving, list) or len(weaving) == 0:
        return False
    stand = stand_by(house, weaving[:-1])
    if stand is None or not may_go_on(house, stand, weaving[-1]):
        return False
    return is_early_go(house, stand, weaving[-1])


def is_stuck(house, weaving):
    need_loose(house)
    stand = stand_by(house, weaving)
    return stand is not None and stops(house, stand)


def is_stand_like(house, thing):
    first = at_first(house)
    if not is_tuple_within(thing, 2, 2) or not all([isinstance(part, tuple) for part in thing]):
        return False
    if [len(part) for part in thing] != [len(part) for part in first]:
        return False
    lengths = [len(script) for script in house[SCRIPTS]]
    if not all([is_within(place, 0, most) for place, most in zip(thing[PLACES], lengths, strict=True)]):
        return False
    return all([is_within(number, 0, MOST_NUMBER) for number in thing[NUMBERS]])


def is_kept_at(house, stand, listed):
    if stops(house, stand) or has_early(house, stand):
        return False
    return all([stand_behind in listed for hand, stand_behind in steps_from(house, stand)])


def holds_by(house, p, stands):
    need_loose_wall(house, p)
    if not isinstance(stands, list) or len(stands) > MOST_STANDS:
        return False
    if not all([is_stand_like(house, stand) for stand in stands]):
        return False
    listed = dict([(stand, True) for stand in stands])
    if len(listed) != len(stands) or at_first(house) not in listed:
        return False
    return all([is_kept_at(house, stand, listed) for stand in stands])
