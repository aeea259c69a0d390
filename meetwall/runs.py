"""Runs: a stand kept up deed by deed, and how its hands go on as far as can be."""

from meetwall.houses import BOXES, WALLS


# None is more than any number: a wall is lifted to it when nobody is waited for any more.
def is_met(level, need):
    return level is None or level >= need


class Run:
    def __init__(self, plan, stand):
        self.plan = plan
        self.done = {}
        self.sums = [0] * plan.house[BOXES]
        # For each wall: how often each hand that is waited for came to it.
        self.comers = [{} for wall in range(plan.house[WALLS])]
        for hand, done in stand.items():
            self.put(hand, done)
        self.lifts = [self.least_come(wall) for wall in range(plan.house[WALLS])]

    def put(self, hand, done):
        role = self.plan.roles[hand]
        deeds = role.script[:done]
        self.done[hand] = done
        for deed in deeds:
            if deed[0] == "raise":
                self.sums[deed[1]] += deed[2]
        for wall, came in role.came.items():
            if done < len(role.script) and ("leave", wall) not in deeds:
                self.comers[wall][hand] = came + deeds.count(("come", wall))

    def least_come(self, wall):
        return min(list(self.comers[wall].values()), default=None)

    # The ground of an await or a go is its first two parts: what it waits at, however much it waits for.
    def level(self, ground):
        return self.sums[ground[1]] if ground[0] == "await" else self.lifts[ground[1]]

    def next_deed(self, hand):
        script = self.plan.roles[hand].script
        place = self.done[hand]
        return script[place] if place < len(script) else None

    def may_go_on(self, hand):
        deed = self.next_deed(hand)
        if deed is None:
            return False
        need = self.plan.roles[hand].needs[self.done[hand]]
        return need is None or is_met(self.level(deed[:2]), need)

    def going(self):
        return sorted([hand for hand in self.done if self.may_go_on(hand)])

    def has_done(self, name):
        return self.done.get(name[0], 0) > name[1]

    def has_done_all(self):
        roles = self.plan.roles
        return all([self.done.get(hand) == len(role.script) for hand, role in roles.items()])

    # The grounds that this deed has changed are given back.
    def do(self, hand):
        role = self.plan.roles[hand]
        place = self.done[hand]
        deed = role.script[place]
        self.done[hand] = place + 1
        if deed[0] == "raise":
            self.sums[deed[1]] += deed[2]
        if deed[0] == "begin":
            self.put(role.begins[place], 0)
        if deed[0] == "come":
            self.comers[deed[1]][hand] += 1
        if deed[0] == "leave":
            self.comers[deed[1]].pop(hand, None)
        if place + 1 == len(role.script):
            for wall in role.came:
                self.comers[wall].pop(hand, None)
            return self.changed(deed, list(role.came))
        return self.changed(deed, [deed[1]] if deed[0] in ("come", "leave") else [])

    def changed(self, deed, walls):
        grounds = [("await", deed[1])] if deed[0] == "raise" else []
        for wall in walls:
            lift = self.least_come(wall)
            if lift != self.lifts[wall]:
                self.lifts[wall] = lift
                grounds.append(("go", wall))
        return grounds


def first_run(plan):
    return Run(plan, plan.at_first())


# Goes on as far as can be, but that the deeds of held, a dict, are not done.
class Weaver:
    def __init__(self, run, held):
        self.run = run
        self.held = held
        self.woven = []
        self.ready = list(run.done)
        # From grounds to the hands that wait there: only a change of its ground makes a hand worth another look.
        self.waiting = {}
        self.stopped = []

    def step(self, hand):
        begun = self.run.plan.roles[hand].begins.get(self.run.done[hand])
        for ground in self.run.do(hand):
            self.ready.extend(self.waiting.pop(ground, []))
        self.woven.append(hand)
        self.ready.append(hand)
        if begun is not None:
            self.ready.append(begun)

    def weave(self):
        while self.ready:
            hand = self.ready.pop()
            deed = self.run.next_deed(hand)
            if (hand, self.run.done[hand]) in self.held:
                self.stopped.append(hand)
            elif self.run.may_go_on(hand):
                self.step(hand)
            elif deed is not None:
                self.waiting.setdefault(deed[:2], []).append(hand)

    # The hands that stand at deeds of held since it was asked last.
    def take_stopped(self):
        stopped = self.stopped
        self.stopped = []
        return stopped


def woven_on(run, held):
    weaver = Weaver(run, held)
    weaver.weave()
    return weaver.woven
