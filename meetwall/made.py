"""Made walls: whether hands that say come and go ever pass early or are left waiting, and what their wall costs."""

from meetwall.errors import NoWall, TooMany
from meetwall.houses import is_within, said_in
from meetwall.musts import Stop, is_must
from meetwall.plans import is_name, plan_of
from meetwall.runs import first_run, woven_on
from meetwall.weavings import named, run_by

MOST_MEETERS = 16
MOST_PHASES = 4
MOST_DEEDS_OF_COST = 300


def is_made(plan, n, p):
    if not is_within(n, 1, MOST_MEETERS) or not is_within(p, 0, MOST_PHASES):
        return False
    wanted = dict([((number,), ["come", "go"] * p) for number in range(n)])
    if not all([hand in plan.roles for hand in wanted]):
        return False
    return all([said_in(role.script) == wanted.get(hand, []) for hand, role in plan.roles.items()])


def made_plan(house, n, p):
    plan = plan_of(house)
    if not is_made(plan, n, p):
        raise NoWall("this is no made wall of so many hands and phases")
    return plan


def triples(n, p):
    found = []
    for phase in range(p):
        for other in range(n):
            found.extend([(number, other, phase) for number in range(n) if number != other])
    return found


def say_of(plan, number, word, phase):
    script = plan.roles[(number,)].script
    places = [place for place, deed in enumerate(script) if deed == ("say", word)]
    return ((number,), places[phase])


def come_of(plan, triple):
    return say_of(plan, triple[1], "come", triple[2])


def go_of(plan, triple):
    return say_of(plan, triple[0], "go", triple[2])


def tried(house, n, p):
    plan = made_plan(house, n, p)
    run = first_run(plan)
    woven = woven_on(run, {})
    if not run.has_done_all():
        return ("stuck", woven)
    stops = {}
    papers = {}
    for triple in triples(n, p):
        come = come_of(plan, triple)
        go = go_of(plan, triple)
        if come not in stops:
            stops[come] = Stop(plan, come)
        if not stops[come].lacks(go):
            return ("early", stops[come].up_to(go)) + triple
        papers[triple] = list(stops[come].woven)
    return ("holds", papers)


def has_triples(thing, n, p):
    if not isinstance(thing, dict) or not all([is_name(triple) for triple in thing]):
        return False
    return sorted(thing) == sorted(triples(n, p))


def ends_with_all_done(plan):
    run = first_run(plan)
    woven_on(run, {})
    return run.has_done_all()


def are_papers(house, n, p, papers):
    plan = made_plan(house, n, p)
    if not has_triples(papers, n, p) or not ends_with_all_done(plan):
        return False
    weaving = None
    run = None
    for triple in triples(n, p):
        # The papers of one come may all be the same long weaving: then it is played once for all of them.
        if papers[triple] != weaving:
            weaving = papers[triple]
            run = run_by(plan, weaving)
        if not is_must(run, come_of(plan, triple), go_of(plan, triple)):
            return False
    return True


def is_plain(house):
    raisers = {}
    for hand, role in plan_of(house).roles.items():
        for deed in role.script:
            if deed[0] == "raise" and raisers.setdefault(deed[1], hand) != hand:
                return False
    return True


# In the order of a weaving: whatever must come ahead of an await has its height by then.
def depth_of(plan):
    woven = named(woven_on(first_run(plan), {}))
    awaits = [name for name in woven if plan.what(name)[0] == "await"]
    heights = dict([(name, 1) for name in awaits])
    for place, one in enumerate(awaits):
        stop = Stop(plan, one)
        for other in awaits[place + 1:]:
            if stop.lacks(other):
                heights[other] = max(heights[other], heights[one] + 1)
    return max(list(heights.values()), default=0)


def cost(house):
    plan = plan_of(house)
    deeds = [plan.what(name) for name in plan.every_deed()]
    if len(deeds) > MOST_DEEDS_OF_COST:
        raise TooMany("the hands have more than 300 deeds together")
    raised = [deed[1] for deed in deeds if deed[0] == "raise"]
    awaits = [deed for deed in deeds if deed[0] == "await"]
    return (len(set(raised)), len(awaits), depth_of(plan))
