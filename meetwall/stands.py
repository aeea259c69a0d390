"""Stands: how many deeds each hand has done, what lies in the boxes, what is lifted, and who may go on."""

from meetwall.errors import NoDeed, NoHand, NoStand, NoWall
from meetwall.houses import is_wall, is_whole, is_within
from meetwall.plans import is_name, plan_of
from meetwall.runs import Run


def is_tally(thing):
    if not isinstance(thing, dict):
        return False
    return all([is_name(hand) and is_whole(done) for hand, done in thing.items()])


def is_stand_of(plan, thing):
    if not is_tally(thing):
        return False
    there = [hand for hand in plan.roles if plan.is_called(hand, thing)]
    if len(there) != len(thing):
        return False
    return all([is_within(thing.get(hand), 0, len(plan.roles[hand].script)) for hand in there])


def run_at(house, stand):
    plan = plan_of(house)
    if not is_stand_of(plan, stand):
        raise NoStand("this is no stand of the house")
    return Run(plan, stand)


def hands(house):
    return dict([(hand, role.calling) for hand, role in plan_of(house).roles.items()])


def first_stand(house):
    return plan_of(house).at_first()


def is_stand(house, thing):
    return is_stand_of(plan_of(house), thing)


def numbers(house, stand):
    return run_at(house, stand).sums


def lifted(house, stand, wall):
    run = run_at(house, stand)
    if not is_wall(wall, house):
        raise NoWall("there is no such wall")
    return run.lifts[wall]


def may_go(house, stand):
    return run_at(house, stand).going()


def behind(house, stand, hand):
    run = run_at(house, stand)
    if not is_name(hand) or hand not in run.done:
        raise NoHand("there is no such hand in this stand")
    if not run.may_go_on(hand):
        raise NoDeed("this hand may not go on")
    run.do(hand)
    return run.done
