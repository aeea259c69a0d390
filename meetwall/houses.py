"""Houses: tuples (boxes, walls, firsts, scripts), and whether anything at all is one."""

from meetwall.errors import NoHouse

BOXES = 0
WALLS = 1
FIRSTS = 2
SCRIPTS = 3
MOST_BOXES = 99
MOST_WALLS = 6
MOST_FIRSTS = 40
MOST_SCRIPTS = 20
MOST_DEEDS_OF_SCRIPT = 80
MOST_HANDS = 60
MOST_DEEDS = 1200
MOST_RAISED = 99
MOST_AWAITED = 9999
MOST_WORKED = 999
MOST_LETTERS = 8
MODES = ("both", "come", "go")


def is_whole(thing):
    return isinstance(thing, int) and not isinstance(thing, bool)


def is_within(thing, least, most):
    return is_whole(thing) and least <= thing <= most


def is_tuple_within(thing, least, most):
    return isinstance(thing, tuple) and least <= len(thing) <= most


def is_letters(thing):
    if not isinstance(thing, str) or len(thing) == 0:
        return False
    return all(["a" <= letter <= "z" for letter in thing])


def is_word(thing):
    return is_letters(thing) and len(thing) <= MOST_LETTERS


def is_box(thing, house):
    return is_within(thing, 0, house[BOXES] - 1)


def is_wall(thing, house):
    return is_within(thing, 0, house[WALLS] - 1)


def is_member(thing, house):
    if not is_tuple_within(thing, 2, 2) or not is_wall(thing[0], house):
        return False
    return isinstance(thing[1], str) and thing[1] in MODES


def are_members(thing, house):
    if not isinstance(thing, tuple):
        return False
    last = -1
    for member in thing:
        if not is_member(member, house) or member[0] <= last:
            return False
        last = member[0]
    return True


def is_calling(thing, least, house):
    if not is_tuple_within(thing, 2, 2):
        return False
    return is_within(thing[0], least, len(house[SCRIPTS]) - 1) and are_members(thing[1], house)


def is_deed(thing, number, house):
    if not is_tuple_within(thing, 2, 3) or not isinstance(thing[0], str):
        return False
    word = thing[0]
    if word == "begin":
        return is_calling(thing[1:], number + 1, house)
    if word == "raise":
        return len(thing) == 3 and is_box(thing[1], house) and is_within(thing[2], 1, MOST_RAISED)
    if word == "await":
        return len(thing) == 3 and is_box(thing[1], house) and is_within(thing[2], 1, MOST_AWAITED)
    if len(thing) != 2:
        return False
    if word in ("come", "go", "leave"):
        return is_wall(thing[1], house)
    if word == "work":
        return is_within(thing[1], 0, MOST_WORKED)
    return word == "say" and is_word(thing[1])


def is_script(thing, number, house):
    if not is_tuple_within(thing, 0, MOST_DEEDS_OF_SCRIPT):
        return False
    return all([is_deed(deed, number, house) for deed in thing])


def is_frame(thing):
    if not is_tuple_within(thing, 4, 4):
        return False
    if not is_within(thing[BOXES], 0, MOST_BOXES) or not is_within(thing[WALLS], 0, MOST_WALLS):
        return False
    return is_tuple_within(thing[FIRSTS], 1, MOST_FIRSTS) and is_tuple_within(thing[SCRIPTS], 1, MOST_SCRIPTS)


def is_well_formed(thing):
    if not is_frame(thing):
        return False
    for number, script in enumerate(thing[SCRIPTS]):
        if not is_script(script, number, thing):
            return False
    return all([is_calling(calling, 0, thing) for calling in thing[FIRSTS]])


# A script begins later ones alone, so counting from the last one on needs no look at the
# hands one by one: there may be far too many of them.
def brought_by_scripts(scripts):
    brought = {}
    for number in range(len(scripts) - 1, -1, -1):
        hands = 1
        deeds = len(scripts[number])
        for deed in scripts[number]:
            if deed[0] == "begin":
                hands += brought[deed[1]][0]
                deeds += brought[deed[1]][1]
        brought[number] = (hands, deeds)
    return brought


def is_small_enough(house):
    brought = brought_by_scripts(house[SCRIPTS])
    hands = sum([brought[calling[0]][0] for calling in house[FIRSTS]])
    deeds = sum([brought[calling[0]][1] for calling in house[FIRSTS]])
    return hands <= MOST_HANDS and deeds <= MOST_DEEDS


def is_allowed(deed, had):
    word = deed[0]
    if word in ("come", "go"):
        return had.get(deed[1]) in ("both", word)
    if word == "leave":
        return deed[1] in had
    if word == "begin":
        return all([had.get(wall) in ("both", mode) for wall, mode in deed[2]])
    return True


def fits(scripts, calling):
    had = dict(calling[1])
    for deed in scripts[calling[0]]:
        if not is_allowed(deed, had):
            return False
        if deed[0] == "leave":
            had.pop(deed[1])
        if deed[0] == "begin" and not fits(scripts, deed[1:]):
            return False
    return True


def said_in(deeds):
    return [deed[1] for deed in deeds if deed[0] == "say"]


def is_house(thing):
    if not is_well_formed(thing) or not is_small_enough(thing):
        return False
    # Only behind the bounds: they keep this walk, hand by hand, short.
    return all([fits(thing[SCRIPTS], calling) for calling in thing[FIRSTS]])


def need_house(thing):
    if not is_house(thing):
        raise NoHouse("this is no house")
