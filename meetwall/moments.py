"""Moments: when each deed is done at the earliest, and chains of works that take just so long."""

from meetwall.houses import is_whole
from meetwall.plans import is_name, need_deeds, plan_of
from meetwall.runs import Weaver, first_run, is_met
from meetwall.weavings import named, run_by


# All that can be done at a moment is done at it; then the works that end soonest tell the next moment.
def soonest(plan):
    run = first_run(plan)
    works = [name for name in plan.every_deed() if plan.what(name)[0] == "work"]
    weaver = Weaver(run, dict([(name, True) for name in works]))
    moments = []
    ends = {0: []}
    while ends:
        now = min(list(ends))
        ending = ends.pop(now)
        for hand in ending:
            weaver.step(hand)
        weaver.weave()
        moments.extend([now] * (len(weaver.woven) - len(moments)))
        for hand in weaver.take_stopped():
            ends.setdefault(now + run.next_deed(hand)[1], []).append(hand)
    return [name + (now,) for name, now in zip(named(weaver.woven), moments, strict=True)]


# From awaits and goes to the deeds by which they may first be done, whether their hands are there yet or not.
def first_lets(plan, names):
    run = first_run(plan)
    story = {}
    lets = {}
    for name in names:
        need = plan.roles[name[0]].needs[name[1]]
        # Only awaits and goes have their first two parts among the grounds.
        rows = story.get(plan.what(name)[:2], [])
        by = [other for level, other in rows if is_met(level, need)]
        if by:
            lets[name] = by[0]
        for ground in run.do(name[0]):
            story.setdefault(ground, []).append((run.level(ground), name))
    return lets


class Sheet:
    def __init__(self, plan, rows):
        self.plan = plan
        self.lets = first_lets(plan, [row[:2] for row in rows])
        self.moments = dict([(row[:2], row[2]) for row in rows])

    # The hand's deed ahead, or the one that calls it; None for the first deed of a first hand.
    def source(self, name):
        return (name[0], name[1] - 1) if name[1] > 0 else self.plan.roles[name[0]].call

    def when(self, name):
        return 0 if name is None else self.moments[name]

    def due(self, name):
        deed = self.plan.what(name)
        since = self.when(self.source(name))
        return since + deed[1] if deed[0] == "work" else max(since, self.when(self.lets.get(name)))

    # One of the deeds by which this one is done no earlier than it is.
    def cause(self, name):
        source = self.source(name)
        by = self.lets.get(name)
        return by if self.when(by) > self.when(source) else source

    def is_link(self, one, other):
        return one in (self.source(other), self.lets.get(other))

    def works(self, names):
        deeds = [self.plan.what(name) for name in names]
        return sum([deed[1] for deed in deeds if deed[0] == "work"])


def is_timed_row(thing):
    return isinstance(thing, tuple) and len(thing) == 3 and is_whole(thing[1]) and is_whole(thing[2])


# The sheet of a timed weaving; None for rows that are none.
def sheet_by(plan, rows):
    if not isinstance(rows, list) or not all([is_timed_row(row) for row in rows]):
        return None
    weaving = [row[0] for row in rows]
    run = run_by(plan, weaving)
    if run is None or len(run.going()) > 0 or [row[:2] for row in rows] != named(weaving):
        return None
    moments = [row[2] for row in rows]
    sheet = Sheet(plan, rows)
    if moments != sorted(moments) or moments != [sheet.due(row[:2]) for row in rows]:
        return None
    return sheet


def is_deed_of(sheet, thing):
    if not isinstance(thing, tuple) or len(thing) != 2:
        return False
    return is_name(thing[0]) and is_whole(thing[1]) and thing in sheet.moments


def sheet_with(house, name):
    plan = plan_of(house)
    need_deeds(plan, [name])
    return Sheet(plan, soonest(plan))


def timed(house):
    return soonest(plan_of(house))


def is_timed(house, rows):
    return sheet_by(plan_of(house), rows) is not None


def moment(house, deed):
    return sheet_with(house, deed).moments.get(deed)


def chain(house, deed):
    sheet = sheet_with(house, deed)
    if deed not in sheet.moments:
        return None
    names = []
    name = deed
    while name is not None:
        names.append(name)
        name = sheet.cause(name)
    return list(reversed(names))


def is_chain(house, rows, deeds):
    sheet = sheet_by(plan_of(house), rows)
    if sheet is None or not isinstance(deeds, list) or len(deeds) == 0:
        return False
    if not all([is_deed_of(sheet, name) for name in deeds]) or sheet.source(deeds[0]) is not None:
        return False
    if not all([sheet.is_link(deeds[place], name) for place, name in enumerate(deeds[1:])]):
        return False
    return sheet.works(deeds) == sheet.when(deeds[-1])
