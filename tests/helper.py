"""What several test files need: small houses, random ones, and a second, step by step telling of stands."""

import random

from meetwall.stands import behind, first_stand, may_go

MODES = ("both", "come", "go")


def house_of(scripts, firsts=((0, ()),), boxes=3, walls=3):
    return (boxes, walls, tuple(firsts), tuple(scripts))


def at(wall, mode="both"):
    return (wall, mode)


def big_house():
    """A house at the bounds: 60 hands, 1200 deeds, 99 boxes, 6 walls, and 40 firsts, 20 scripts."""
    members = tuple((wall, "both") for wall in range(6))
    rounds = tuple(deed for wall in range(6) for deed in (("come", wall), ("go", wall)))
    starter = (("begin", 2, members),) + rounds + (("raise", 98, 1),) * 3 + (("await", 98, 99),) * 4
    helper = rounds + (("raise", 98, 1),) * 4 + (("await", 98, 180),) * 4
    begun = rounds + (("raise", 98, 2),) * 4 + (("await", 98, 300),) * 4
    spare = ((("say", "spare"),) * 80,) * 17
    firsts = ((0, members),) * 20 + ((1, members),) * 20
    return (99, 6, firsts, (starter, helper, begun) + spare)


def far_house():
    """Twenty scripts, each of which begins the next one eighty times, with forty firsts."""
    scripts = tuple((("begin", number + 1, ()),) * 80 for number in range(19)) + ((),)
    return (0, 0, ((0, ()),) * 40, scripts)


class Chance:
    """Random houses and stands out of one seed."""

    def __init__(self, seed):
        self.draw = random.Random(seed)

    def stronger(self, members):
        """Members that a script made for these fits, too."""
        return tuple((wall, self.draw.choice(("both", mode))) for wall, mode in members)

    def deed(self, had, later):
        draw = self.draw
        word = draw.choice(("raise", "await", "come", "go", "come", "go", "leave", "begin", "work", "say"))
        if word == "raise":
            return ("raise", draw.randrange(2), draw.randrange(1, 3))
        if word == "await":
            return ("await", draw.randrange(2), draw.randrange(1, 5))
        if word in ("come", "go"):
            walls = [wall for wall in sorted(had) if had[wall] in ("both", word)]
            return (word, draw.choice(walls)) if walls else ("say", "none")
        if word == "leave":
            return ("leave", draw.choice(sorted(had))) if had and draw.random() < 0.5 else ("work", 0)
        if word == "begin":
            return self.begin(had, later)
        return ("work", draw.randrange(9)) if word == "work" else ("say", "word")

    def begin(self, had, later):
        number = self.draw.choice(sorted(later)) if later else None
        fit = later and all(had.get(wall) in ("both", mode) for wall, mode in later[number])
        if not fit:
            return ("say", "alone")
        members = tuple((wall, "both" if had[wall] == "both" and self.draw.random() < 0.5 else mode)
                        for wall, mode in later[number])
        return ("begin", number, members)

    def script(self, members, later, most):
        had = dict(members)
        deeds = []
        for place in range(self.draw.randrange(most + 1)):
            deeds.append(self.deed(had, later))
            if deeds[-1][0] == "leave":
                had.pop(deeds[-1][1])
        return tuple(deeds)

    def house(self, scripts=3, most=5, firsts=3):
        made = {}
        needs = {}
        for number in reversed(range(scripts)):
            members = tuple((wall, self.draw.choice(MODES)) for wall in range(2) if self.draw.random() < 0.6)
            made[number] = self.script(members, needs, most)
            needs[number] = members
        called = [self.draw.randrange(scripts) for place in range(self.draw.randrange(1, firsts + 1))]
        callings = tuple((number, self.stronger(needs[number])) for number in called)
        return (2, 2, callings, tuple(made[number] for number in range(scripts)))

    def stand(self, house):
        """Any stand, whether a weaving comes to it or not."""
        stand = {}
        waiting = [((number,), calling) for number, calling in enumerate(house[2])]
        while waiting:
            hand, calling = waiting.pop()
            script = house[3][calling[0]]
            stand[hand] = self.draw.randrange(len(script) + 1)
            begins = [deed for deed in script[:stand[hand]] if deed[0] == "begin"]
            waiting += [(hand + (number,), deed[1:]) for number, deed in enumerate(begins)]
        return stand

    def weaving(self, house):
        """The stands of one full weaving, each with the hand that goes on in it (None at the end)."""
        rows = []
        stand = first_stand(house)
        while may_go(house, stand):
            hand = self.draw.choice(may_go(house, stand))
            rows.append((stand, hand))
            stand = behind(house, stand, hand)
        return rows + [(stand, None)]


class Player:
    """Does deeds one by one and keeps, for each hand, its walls with mode, comes and goes."""

    def __init__(self, house):
        self.scripts = house[3]
        self.boxes = [0] * house[0]
        self.hands = {}
        for number, (script, members) in enumerate(house[2]):
            self.put((number,), script, {wall: [mode, 0, 0] for wall, mode in members})

    def put(self, hand, script, walls):
        self.hands[hand] = {"script": self.scripts[script], "done": 0, "begun": 0, "walls": walls}
        self.part(self.hands[hand])

    def part(self, state):
        if state["done"] == len(state["script"]):
            state["walls"] = {}

    def lifted(self, wall):
        rows = [state["walls"][wall] for state in self.hands.values() if wall in state["walls"]]
        comes = [row[1] for row in rows if row[0] != "go"]
        return min(comes) if comes else None

    def may(self, hand):
        state = self.hands[hand]
        if state["done"] == len(state["script"]):
            return False
        deed = state["script"][state["done"]]
        if deed[0] == "await":
            return self.boxes[deed[1]] >= deed[2]
        if deed[0] == "go":
            lift = self.lifted(deed[1])
            return lift is None or lift > state["walls"][deed[1]][2]
        return True

    def do(self, hand):
        """The hand's next deed, whether it may be done or not."""
        state = self.hands[hand]
        deed = state["script"][state["done"]]
        state["done"] += 1
        if deed[0] == "raise":
            self.boxes[deed[1]] += deed[2]
        elif deed[0] in ("come", "go"):
            state["walls"][deed[1]][1 if deed[0] == "come" else 2] += 1
        elif deed[0] == "leave":
            state["walls"].pop(deed[1])
        elif deed[0] == "begin":
            walls = {wall: [mode] + state["walls"][wall][1:] for wall, mode in deed[2]}
            self.put(hand + (state["begun"],), deed[1], walls)
            state["begun"] += 1
        self.part(state)

    def stand(self):
        return {hand: state["done"] for hand, state in self.hands.items()}


def player_at(house, stand):
    player = Player(house)
    for hand in sorted(stand, key=len):
        for place in range(stand[hand]):
            player.do(hand)
    return player
