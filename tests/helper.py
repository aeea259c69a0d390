"""What several test files need: small houses, random ones, and a second telling of all that comes of a house, which
goes step by step, tick by tick, through all stands, and draws nothing from the package but to draw random weavings."""

import copy
import random

from meetwall.stands import behind, first_stand, may_go

MODES = ("both", "come", "go")
WORDS = ("raise", "await", "come", "go", "come", "go", "leave", "begin", "work", "say")
# With these few hands are left waiting, and many wait for a while.
FLOWING = ("raise", "raise", "raise", "await", "come", "come", "go", "leave", "begin", "work", "work", "work")
COME, GO = ("say", "come"), ("say", "go")


def house_of(scripts, firsts=((0, ()),), boxes=3, walls=3):
    return (boxes, walls, tuple(firsts), tuple(scripts))


def at(wall, mode="both"):
    return (wall, mode)


def big_house():
    """A house at the bounds: 60 hands, 1200 deeds, 99 boxes, 6 walls, and 40 firsts, 20 scripts."""
    members = tuple((wall, "both") for wall in range(6))
    rounds = tuple(deed for wall in range(6) for deed in (("come", wall), ("go", wall)))
    starter = (("begin", 2, members),) + rounds + (("raise", 98, 1),) * 3 + (("await", 98, 99),) * 4
    helper = rounds + (("raise", 98, 1),) * 4 + (("await", 98, 180),) * 4
    begun = rounds + (("raise", 98, 2),) * 4 + (("await", 98, 300),) * 4
    spare = ((("say", "spare"),) * 80,) * 17
    firsts = ((0, members),) * 20 + ((1, members),) * 20
    return (99, 6, firsts, (starter, helper, begun) + spare)


def far_house():
    """Twenty scripts, each of which begins the next one eighty times, with forty firsts."""
    scripts = tuple((("begin", number + 1, ()),) * 80 for number in range(19)) + ((),)
    return (0, 0, ((0, ()),) * 40, scripts)


def shared(n, p, less=0):
    script = ()
    for q in range(p):
        script += (COME, ("raise", 0, 1), ("await", 0, n * (q + 1) - less), GO)
    return house_of([script] * n, [(i, ()) for i in range(n)], boxes=1, walls=0)


def own(n, p, skipped=()):
    """Each raises its own box and awaits all others', but those of the pairs that are skipped."""
    scripts = []
    for i in range(n):
        script = ()
        for q in range(p):
            awaited = [j for j in range(n) if j != i and (i, j) not in skipped]
            script += (COME, ("raise", i, 1)) + tuple(("await", j, q + 1) for j in awaited) + (GO,)
        scripts.append(script)
    return house_of(scripts, [(i, ()) for i in range(n)], boxes=n, walls=0)


def spread(n, p):
    rounds = (n - 1).bit_length()
    scripts = []
    for i in range(n):
        script = ()
        for q in range(p):
            script += (COME,)
            for k in range(rounds):
                script += (("raise", k * n + i, 1), ("await", k * n + (i - 2 ** k) % n, q + 1))
            script += (GO,)
        scripts.append(script)
    return house_of(scripts, [(i, ()) for i in range(n)], boxes=n * rounds, walls=0)


def tree(n, p):
    scripts = []
    for i in range(n):
        script = ()
        for q in range(p):
            below = tuple(("await", j, q + 1) for j in (2 * i + 1, 2 * i + 2) if j < n)
            script += (COME,) + below + (("raise", i, 1),) + ((("await", 0, q + 1),) if i else ()) + (GO,)
        scripts.append(script)
    return house_of(scripts, [(i, ()) for i in range(n)], boxes=n, walls=0)


LOOSE = (1, ((("put", 0, 1), ("say", "x")), (("same", 0, 1), ("skip", 0, 2, 1), ("raise", 0, 1))))
NO_LOOSE = [None, True, 7, "loose", [], {}, (), (1,), LOOSE[:1], LOOSE + (0,), list(LOOSE), (1, list(LOOSE[1])),
            (1, ()), (7, LOOSE[1]), (-1, LOOSE[1]), (0, LOOSE[1]), (True, LOOSE[1]), (1, ((),) * 5),
            (1, ((("put", 0, 10),),)), (1, ((("say", "X"),),)), (1, ((("skip", 0, 0, 1),),)),
            (1, ((("raise", 0, 0),),)), (1, ([],)), (LOOSE[1], 1), (1, ((("put", 0, 1),) * 31,)),
            (1, ((("await", 0, 1),),)), big_house()]


def drawn_loose(draw):
    """Any loose house of few hands and deeds."""
    boxes = draw.randrange(1, 3)
    scripts = []
    for hand in range(draw.randrange(1, 4)):
        length = draw.randrange(0, 7)
        deeds = []
        for place in range(length):
            words = ["put", "raise", "same", "say"] + (["skip", "skip"] if place + 1 < length else [])
            deeds.append(drawn_loose_deed(draw, draw.choice(words), boxes, length - place - 1))
        scripts.append(tuple(deeds))
    return (boxes, tuple(scripts))


def drawn_loose_deed(draw, word, boxes, behind):
    box = draw.randrange(boxes)
    if word == "say":
        return ("say", draw.choice(("come", "go", "word")))
    if word == "raise":
        return ("raise", box, draw.choice((1, 1, 2, 9)))
    if word == "skip":
        return ("skip", box, draw.randrange(3), draw.randrange(1, behind + 1))
    return (word, box, draw.randrange(3))


def loose_may(house, stand, hand):
    rest = house[1][hand][stand[0][hand]:]
    return bool(rest) and (rest[0][0] != "same" or stand[1][rest[0][1]] == rest[0][2])


def loose_behind(house, stand, hand):
    word, *told = house[1][hand][stand[0][hand]]
    boxes = {box: number for box, number in enumerate(stand[1])}
    further = 1
    if word == "put":
        boxes[told[0]] = told[1]
    elif word == "raise":
        boxes[told[0]] = int(str(boxes[told[0]] + told[1])[-1])
    elif word == "skip" and boxes[told[0]] == told[1]:
        further += told[2]
    places = tuple(place + further * (other == hand) for other, place in enumerate(stand[0]))
    return places, tuple(boxes.values())


def loose_stands(house, most=None):
    """All that weavings come to, the first one first; at least so many where there are as many."""
    found = {((0,) * len(house[1]), (0,) * house[0]): True}
    waiting = list(found)
    for stand in waiting:
        for hand in range(len(house[1])):
            if loose_may(house, stand, hand) and loose_behind(house, stand, hand) not in found:
                found[loose_behind(house, stand, hand)] = True
                waiting.append(loose_behind(house, stand, hand))
        if most and len(found) > most:
            break
    return list(found)


def lists_in(thing):
    """All lists and dicts that lie in what is told, the innermost first."""
    found = []
    if isinstance(thing, (list, tuple)):
        found = [inner for part in thing for inner in lists_in(part)]
    if isinstance(thing, dict):
        found = [inner for part in thing.values() for inner in lists_in(part)]
    return found + ([thing] if isinstance(thing, (list, dict)) else [])


def spoil(thing):
    """Changes all lists and dicts that lie in what is told."""
    for inner in lists_in(thing):
        if isinstance(inner, dict):
            inner.clear()
            inner[(7, 7)] = 7
        else:
            inner.append((9,))
            inner.reverse()


def check_own(case, ask):
    """What ask tells is the asker's own: it is changed, asked for again, and told as before."""
    told = ask()
    kept = copy.deepcopy(told)
    inner = lists_in(told)
    # None of them is another one, too: a change of one changes no other.
    case.assertEqual(len({id(thing) for thing in inner}), len(inner))
    spoil(told)
    case.assertEqual(ask(), kept)


class Chance:
    """Random houses and stands out of one seed."""

    def __init__(self, seed, words=WORDS):
        self.draw = random.Random(seed)
        self.words = words

    def stronger(self, members):
        """Members that a script made for these fits, too."""
        return tuple((wall, self.draw.choice(("both", mode))) for wall, mode in members)

    def deed(self, had, later):
        draw = self.draw
        word = draw.choice(self.words)
        if word == "raise":
            return ("raise", draw.randrange(2), draw.randrange(1, 3))
        if word == "await":
            return ("await", draw.randrange(2), draw.randrange(1, 5))
        if word in ("come", "go"):
            walls = [wall for wall in sorted(had) if had[wall] in ("both", word)]
            return (word, draw.choice(walls)) if walls else ("say", "none")
        if word == "leave":
            return ("leave", draw.choice(sorted(had))) if had and draw.random() < 0.5 else ("work", 0)
        if word == "begin":
            return self.begin(had, later)
        return ("work", draw.randrange(9)) if word == "work" else ("say", "word")

    def begin(self, had, later):
        number = self.draw.choice(sorted(later)) if later else None
        fit = later and all(had.get(wall) in ("both", mode) for wall, mode in later[number])
        if not fit:
            return ("say", "alone")
        members = tuple((wall, "both" if had[wall] == "both" and self.draw.random() < 0.5 else mode)
                        for wall, mode in later[number])
        return ("begin", number, members)

    def script(self, members, later, most):
        had = dict(members)
        deeds = []
        for place in range(self.draw.randrange(most + 1)):
            deeds.append(self.deed(had, later))
            if deeds[-1][0] == "leave":
                had.pop(deeds[-1][1])
        return tuple(deeds)

    def house(self, scripts=3, most=5, firsts=3):
        made = {}
        needs = {}
        for number in reversed(range(scripts)):
            members = tuple((wall, self.draw.choice(MODES)) for wall in range(2) if self.draw.random() < 0.6)
            made[number] = self.script(members, needs, most)
            needs[number] = members
        called = [self.draw.randrange(scripts) for place in range(self.draw.randrange(1, firsts + 1))]
        callings = tuple((number, self.stronger(needs[number])) for number in called)
        return (2, 2, callings, tuple(made[number] for number in range(scripts)))

    def stand(self, house):
        """Any stand, whether a weaving comes to it or not."""
        stand = {}
        waiting = [((number,), calling) for number, calling in enumerate(house[2])]
        while waiting:
            hand, calling = waiting.pop()
            script = house[3][calling[0]]
            stand[hand] = self.draw.randrange(len(script) + 1)
            begins = [deed for deed in script[:stand[hand]] if deed[0] == "begin"]
            waiting += [(hand + (number,), deed[1:]) for number, deed in enumerate(begins)]
        return stand

    def weaving(self, house):
        """The stands of one full weaving, each with the hand that goes on in it (None at the end)."""
        rows = []
        stand = first_stand(house)
        while may_go(house, stand):
            hand = self.draw.choice(may_go(house, stand))
            rows.append((stand, hand))
            stand = behind(house, stand, hand)
        return rows + [(stand, None)]


class Player:
    """Does deeds one by one and keeps, for each hand, its walls with mode, comes and goes."""

    def __init__(self, house):
        self.scripts = house[3]
        self.boxes = [0] * house[0]
        self.hands = {}
        for number, (script, members) in enumerate(house[2]):
            self.put((number,), script, {wall: [mode, 0, 0] for wall, mode in members})

    def put(self, hand, script, walls):
        self.hands[hand] = {"script": self.scripts[script], "done": 0, "begun": 0, "walls": walls}
        self.part(self.hands[hand])

    def part(self, state):
        if state["done"] == len(state["script"]):
            state["walls"] = {}

    def lifted(self, wall):
        rows = [state["walls"][wall] for state in self.hands.values() if wall in state["walls"]]
        comes = [row[1] for row in rows if row[0] != "go"]
        return min(comes) if comes else None

    def may(self, hand):
        state = self.hands[hand]
        if state["done"] == len(state["script"]):
            return False
        deed = state["script"][state["done"]]
        if deed[0] == "await":
            return self.boxes[deed[1]] >= deed[2]
        if deed[0] == "go":
            lift = self.lifted(deed[1])
            return lift is None or lift > state["walls"][deed[1]][2]
        return True

    def do(self, hand):
        """The hand's next deed, whether it may be done or not."""
        state = self.hands[hand]
        deed = state["script"][state["done"]]
        state["done"] += 1
        if deed[0] == "raise":
            self.boxes[deed[1]] += deed[2]
        elif deed[0] in ("come", "go"):
            state["walls"][deed[1]][1 if deed[0] == "come" else 2] += 1
        elif deed[0] == "leave":
            state["walls"].pop(deed[1])
        elif deed[0] == "begin":
            walls = {wall: [mode] + state["walls"][wall][1:] for wall, mode in deed[2]}
            self.put(hand + (state["begun"],), deed[1], walls)
            state["begun"] += 1
        self.part(state)

    def stand(self):
        return {hand: state["done"] for hand, state in self.hands.items()}


def player_at(house, stand):
    player = Player(house)
    for hand in sorted(stand, key=len):
        for place in range(stand[hand]):
            player.do(hand)
    return player


def played_by(house, weaving):
    """The player behind the weaving, or None where it is none."""
    player = Player(house)
    for hand in weaving:
        if hand not in player.hands or not player.may(hand):
            return None
        player.do(hand)
    return player


def going(player):
    return sorted(hand for hand in player.hands if player.may(hand))


def woven(house, pick, weaving=()):
    """A full weaving that begins with the one told; pick chooses among the hands that may go on, at the nth turn."""
    player = played_by(house, weaving)
    hands = list(weaving)
    while going(player):
        hands.append(pick(going(player), len(hands)))
        player.do(hands[-1])
    return hands


def first_one(hands, turn):
    return hands[0]


def last_one(hands, turn):
    return hands[-1]


def by_turns(hands, turn):
    return hands[turn % len(hands)]


def every_hand(house):
    """All hands that may ever be, each with its script."""
    scripts = {}
    waiting = [((number,), calling[0]) for number, calling in enumerate(house[2])]
    while waiting:
        hand, number = waiting.pop()
        scripts[hand] = house[3][number]
        begins = [deed[1] for deed in scripts[hand] if deed[0] == "begin"]
        waiting += [(hand + (place,), begun) for place, begun in enumerate(begins)]
    return scripts


def every_deed(house):
    return [(hand, place) for hand, script in sorted(every_hand(house).items()) for place in range(len(script))]


def deeds_of(weaving):
    return [(hand, weaving[:place].count(hand)) for place, hand in enumerate(weaving)]


def reached(house, most=600):
    """All stands that weavings come to, or None where there are more than so many."""
    found = {}
    waiting = [{(number,): 0 for number in range(len(house[2]))}]
    while waiting:
        stand = waiting.pop()
        key = tuple(sorted(stand.items()))
        if key in found:
            continue
        found[key] = stand
        if len(found) > most:
            return None
        for hand in going(player_at(house, stand)):
            player = player_at(house, stand)
            player.do(hand)
            waiting.append(player.stand())
    return list(found.values())


def has_done(stand, deed):
    return stand.get(deed[0], 0) > deed[1]


def small_houses(count, **sizes):
    """Random houses with few stands, each with its seed and its stands."""
    seed = 0
    while count:
        seed += 1
        house = Chance(seed, FLOWING if seed % 2 else WORDS).house(**sizes)
        stands = reached(house)
        if stands is not None and len(stands) > 3:
            count -= 1
            yield house, stands, Chance(seed)


def grounds(house, weaving):
    """For each place what is in the boxes and what is lifted behind it; first of all ahead of the first one."""
    player = Player(house)
    rows = [(list(player.boxes), [player.lifted(wall) for wall in range(house[1])])]
    for hand in weaving:
        player.do(hand)
        rows.append((list(player.boxes), [player.lifted(wall) for wall in range(house[1])]))
    return rows


def lets(house, weaving):
    """For each place of a weaving the place by which its deed may first be done; None where at first or always."""
    rows = grounds(house, weaving)
    player = Player(house)
    told = []
    for hand in weaving:
        state = player.hands[hand]
        deed = state["script"][state["done"]]
        by = 0
        if deed[0] == "await":
            by = [row[0][deed[1]] >= deed[2] for row in rows].index(True)
        if deed[0] == "go":
            went = state["walls"][deed[1]][2]
            by = [row[1][deed[1]] is None or row[1][deed[1]] > went for row in rows].index(True)
        told.append(by - 1 if by else None)
        player.do(hand)
    return told


def source(house, deed):
    """The deed of the hand ahead, or the begin that calls it, or None."""
    hand, place = deed
    if place:
        return (hand, place - 1)
    if len(hand) == 1:
        return None
    script = every_hand(house)[hand[:-1]]
    return (hand[:-1], [at for at, deed in enumerate(script) if deed[0] == "begin"][hand[-1]])


def dued(house, weaving):
    """The moments of a weaving's deeds by the words of point 14."""
    by = lets(house, weaving)
    scripts = every_hand(house)
    names = deeds_of(weaving)
    moments = []
    for place, name in enumerate(names):
        deed = scripts[name[0]][name[1]]
        ahead = source(house, name)
        since = moments[names.index(ahead)] if ahead else 0
        if deed[0] == "work":
            since += deed[1]
        if by[place] is not None:
            since = max(since, moments[by[place]])
        moments.append(since)
    return moments


def is_timed_by_words(house, rows):
    weaving = [row[0] for row in rows]
    player = played_by(house, weaving)
    if player is None or going(player) or deeds_of(weaving) != [row[:2] for row in rows]:
        return False
    moments = [row[2] for row in rows]
    return moments == sorted(moments) and moments == dued(house, weaving)


def is_chain_by_words(house, rows, deeds):
    """Of a timed weaving."""
    names = [row[:2] for row in rows]
    if not deeds or any(deed not in names for deed in deeds) or source(house, deeds[0]) is not None:
        return False
    by = lets(house, [row[0] for row in rows])
    for one, other in zip(deeds, deeds[1:]):
        if source(house, other) != one and by[names.index(other)] != names.index(one):
            return False
    scripts = every_hand(house)
    whats = [scripts[hand][place] for hand, place in deeds]
    return sum(what[1] for what in whats if what[0] == "work") == rows[names.index(deeds[-1])][2]


def ticked(house, draw=None, lazy=False):
    """Rows of a weaving tick by tick, in any order: all that can be done at a tick is, but by the lazy."""
    player = Player(house)
    since = {hand: 0 for hand in player.hands}
    rows = []
    now = 0
    while True:
        able = [hand for hand in player.hands if player.may(hand) and is_over(player, hand, since, now)]
        if not going(player):
            return rows
        if not able or lazy and draw.random() < 0.3:
            now += 1
            continue
        hand = draw.choice(able) if draw else able[0]
        rows.append((hand, player.hands[hand]["done"], now))
        player.do(hand)
        since[hand] = now
        for other in player.hands:
            since.setdefault(other, now)


def is_over(player, hand, since, now):
    deed = player.hands[hand]["script"][player.hands[hand]["done"]]
    return deed[0] != "work" or since[hand] + deed[1] <= now
