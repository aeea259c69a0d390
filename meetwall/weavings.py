"""Weavings: lists of hands that go on one behind the other, and the one end that all full ones come to."""

from meetwall.errors import NoDeed
from meetwall.houses import is_whole
from meetwall.plans import is_name, plan_of
from meetwall.runs import first_run, woven_on


def named(weaving):
    done = {}
    names = []
    for hand in weaving:
        names.append((hand, done.get(hand, 0)))
        done[hand] = done.get(hand, 0) + 1
    return names


def run_by(plan, weaving):
    if not isinstance(weaving, list) or not all([is_name(hand) for hand in weaving]):
        return None
    run = first_run(plan)
    for hand in weaving:
        if hand not in run.done or not run.may_go_on(hand):
            return None
        run.do(hand)
    return run


def need_run(house, weaving):
    run = run_by(plan_of(house), weaving)
    if run is None:
        raise NoDeed("this is no weaving of the house")
    return run


def left(run):
    rows = [(hand, run.next_deed(hand)) for hand in run.done]
    return dict([(hand, deed) for hand, deed in rows if deed is not None])


# True equals 1, but is no whole number: being equal to what is left is not enough.
def is_wait(hand, deed):
    if not is_name(hand) or not isinstance(deed, tuple):
        return False
    return all([isinstance(part, str) or is_whole(part) for part in deed])


def are_waits(thing):
    return isinstance(thing, dict) and all([is_wait(hand, deed) for hand, deed in thing.items()])


def played(house, weaving):
    return need_run(house, weaving).done


def is_full(house, weaving):
    return len(need_run(house, weaving).going()) == 0


def gone_on(house, weaving):
    return woven_on(need_run(house, weaving), {})


def end(house):
    run = first_run(plan_of(house))
    woven = woven_on(run, {})
    if run.has_done_all():
        return ("all", woven)
    return ("knot", woven, left(run))


def is_knot(house, weaving, waits):
    run = run_by(plan_of(house), weaving)
    if run is None or len(run.going()) > 0:
        return False
    return are_waits(waits) and len(waits) > 0 and waits == left(run)
