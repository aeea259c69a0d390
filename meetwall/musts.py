"""Musts: which deed must come ahead of which, whatever the weaving, each told with a weaving that shows it."""

from meetwall.errors import NoDeed, TooMany
from meetwall.plans import need_deeds, plan_of
from meetwall.runs import first_run, woven_on
from meetwall.weavings import run_by

MOST_DEEDS_OF_TABLE = 120


def plan_with(house, one, other):
    plan = plan_of(house)
    need_deeds(plan, [one, other])
    if one == other:
        raise NoDeed("both deeds are the same")
    return plan


class Stop:
    def __init__(self, plan, one):
        self.run = first_run(plan)
        self.woven = woven_on(self.run, {one: True})

    def lacks(self, other):
        return not self.run.has_done(other)

    # The weaving up to this deed, which is done in it.
    def up_to(self, other):
        places = [place for place, hand in enumerate(self.woven) if hand == other[0]]
        return self.woven[:places[other[1]] + 1]


def is_stopped_by(run, one):
    return all([(hand, run.done[hand]) == one for hand in run.going()])


def is_must(run, one, other):
    if run is None or run.has_done(one) or run.has_done(other):
        return False
    return is_stopped_by(run, one)


def must(house, one, other):
    stop = Stop(plan_with(house, one, other), one)
    if stop.lacks(other):
        return ("must", stop.woven)
    return ("free", stop.up_to(other))


def shows_must(house, one, other, weaving):
    return is_must(run_by(plan_with(house, one, other), weaving), one, other)


def shows_free(house, one, other, weaving):
    run = run_by(plan_with(house, one, other), weaving)
    if run is None or run.has_done(one) or len(weaving) == 0:
        return False
    return (weaving[-1], run.done[weaving[-1]] - 1) == other


def table(house):
    plan = plan_of(house)
    names = plan.every_deed()
    if len(names) > MOST_DEEDS_OF_TABLE:
        raise TooMany("the hands have more than 120 deeds together")
    ahead = dict([(name, []) for name in names])
    # The names rise, so each list is sorted as it grows.
    for one in names:
        stop = Stop(plan, one)
        for other in names:
            if other != one and stop.lacks(other):
                ahead[other].append(one)
    return ahead
