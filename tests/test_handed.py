"""What all stages from the weavings on have in common: refusals of houses, what is handed in and told, the bounds."""

import copy
import inspect
import unittest

from helper import (COME, FLOWING, GO, Chance, at, big_house, check_own, every_hand, far_house, going, house_of,
                    played_by)
from meetwall.counted import are_ever, can, ever, is_counted, is_left, is_row
from meetwall.errors import NoHouse, TooMany
from meetwall.heard import heard, heights
from meetwall.houses import is_house
from meetwall.housetexts import read_house, show_house
from meetwall.kinds import made
from meetwall.loose import behind_loose, first_loose, is_loose, may_loose
from meetwall.loosewalls import holds_by, is_early, is_stuck, tried_loose
from meetwall.made import are_papers, cost, is_plain, tried
from meetwall.moments import chain, is_chain, is_timed, moment, timed
from meetwall.musts import must, shows_free, shows_must, table
from meetwall.weavings import end, gone_on, is_full, is_knot, played

A, B = (0,), (1,)
HOUSE = house_of([(COME, ("work", 3), ("come", 0), ("go", 0), GO), (COME, ("begin", 2, ()), ("come", 0), ("go", 0), GO),
                  (("work", 2),)], ((0, (at(0),)), (1, (at(0),))))
NO_HOUSES = [None, False, 7, "house", [], {}, (), list(HOUSE), HOUSE[:3], HOUSE + (0,), far_house(),
             house_of([(("come", 0),)]), house_of([(("await", 9, 1),)]), house_of([()], ()), (True,) + HOUSE[1:]]


def big_wall():
    """A made wall of 16 hands and 4 phases at the bounds: 60 hands, 1200 deeds."""
    script = (("begin", 2, ()),)
    for phase in range(4):
        script += (COME, ("raise", 0, 1), ("await", 0, 16 * (phase + 1)), GO)
    other = (("raise", 1, 1), ("work", 1), ("await", 1, 1), ("await", 0, 16)) * 5
    scripts = [script + (("work", 1),) * 3, (("begin", 2, ()),) + other[1:], other]
    return house_of(scripts, ((0, ()),) * 16 + ((1, ()),) * 4 + ((2, ()),) * 20)


def knotted_house():
    """At the bounds, too: at the end 40 first hands wait, some at the wall and some at a box, and 20 are not begun."""
    comer = (("raise", 0, 1), ("work", 1)) * 9 + (("come", 0), ("go", 0))
    beginner = (("await", 0, 999),) + (("begin", 2, ()),) * 20
    waiter = (("await", 0, 999),) * 20
    return house_of([comer, beginner, (("raise", 0, 1),) * 20, waiter, waiter[:19]],
                    ((0, (at(0),)),) * 30 + ((1, (at(0),)), (4, ())) + ((3, ()),) * 8)


def ring_house():
    """Four times each of twenty hands is let go on by the one behind it, so they go on from the last to the first."""
    scripts = []
    for number in range(20):
        script = ()
        for step in range(4):
            if number < 19:
                script += (("await", number + 1, step + 1),)
            elif step:
                script += (("await", 0, step),)
            script += (("work", 2), ("raise", number, 1))
        scripts.append(script)
    return house_of(scripts, [(number, ()) for number in range(20)], boxes=20)


class NoHouseTest(unittest.TestCase):
    def test_no_house_goes_ahead_of_all(self):
        for house in NO_HOUSES:
            for weaving in ([], [A], [(9,)]):
                for asked in (played, is_full, gone_on):
                    self.assertRaises(NoHouse, asked, house, weaving)
                for waits in ({}, {A: ("go", 0)}):
                    self.assertRaises(NoHouse, is_knot, house, weaving, waits)
            self.assertRaises(NoHouse, end, house)
            self.assertRaises(NoHouse, table, house)
            for one in [(A, 0), (A, -1), ((9,), 0)]:
                for other in [(A, 0), (B, 1), (A, 99), ((9,), 0)]:
                    self.assertRaises(NoHouse, must, house, one, other)
                    self.assertRaises(NoHouse, shows_must, house, one, other, [])
                    self.assertRaises(NoHouse, shows_free, house, one, other, [A])
                self.assertRaises(NoHouse, moment, house, one)
                self.assertRaises(NoHouse, chain, house, one)
            self.assertRaises(NoHouse, timed, house)
            for rows in ([], [(A, 0, 0)], [(A, 9, -1)]):
                self.assertRaises(NoHouse, is_timed, house, rows)
                for deeds in ([], [(A, 0)]):
                    self.assertRaises(NoHouse, is_chain, house, rows, deeds)
            for n, p in [(2, 1), (1, 0), (0, 0), (17, 5)]:
                self.assertRaises(NoHouse, tried, house, n, p)
                self.assertRaises(NoHouse, are_papers, house, n, p, {})
            for asked in (is_plain, cost, heard, heights, show_house):
                self.assertRaises(NoHouse, asked, house)

    def test_a_house_with_too_many_deeds_is_refused_as_none_ahead_of_too_many(self):
        house = house_of([(("work", 1),) * 80], ((0, ()),) * 16)
        self.assertRaises(NoHouse, table, house)
        self.assertRaises(NoHouse, cost, house)
        house = house_of([(("work", 1),) * 80], ((0, ()),) * 15)
        self.assertRaises(TooMany, table, house)
        self.assertRaises(TooMany, cost, house)


class InterfaceTest(unittest.TestCase):
    def test_arguments(self):
        told = {played: "house weaving", is_full: "house weaving", gone_on: "house weaving", end: "house",
                is_knot: "house weaving waits", must: "house one other", shows_must: "house one other weaving",
                shows_free: "house one other weaving", table: "house", timed: "house", is_timed: "house rows",
                moment: "house deed", chain: "house deed", is_chain: "house rows deeds", tried: "house n p",
                are_papers: "house n p papers", is_plain: "house", cost: "house", made: "kind n p", heard: "house",
                heights: "house", is_counted: "thing", can: "meeting", ever: "meeting", is_row: "meeting row",
                is_left: "meeting row", are_ever: "meeting stands", is_loose: "thing", first_loose: "house",
                may_loose: "house stand", behind_loose: "house stand hand", tried_loose: "house p",
                is_early: "house p weaving", is_stuck: "house weaving", holds_by: "house p stands",
                show_house: "house", read_house: "text"}
        for asked, names in told.items():
            self.assertEqual(" ".join(inspect.signature(asked).parameters), names, asked)


def answers(house, weaving, n, p):
    """All that is told of a house."""
    deeds = [(hand, place) for hand, script in sorted(every_hand(house).items()) for place in range(len(script))][:6]
    told = [played(house, weaving), is_full(house, weaving), gone_on(house, weaving), end(house), timed(house),
            table(house), cost(house), is_plain(house), tried(house, n, p)]
    told += [must(house, one, other) for one in deeds for other in deeds if one != other]
    told += [moment(house, deed) for deed in deeds] + [chain(house, deed) for deed in deeds]
    return told


class OwnTest(unittest.TestCase):
    def cases(self):
        yield HOUSE, [A, B, B], 2, 1
        for seed in range(40):
            chance = Chance(seed, [word for word in FLOWING if word != "say"])
            house = chance.house(most=4)
            while any(deed[0] == "say" for script in every_hand(house).values() for deed in script):
                house = chance.house(most=4)
            weaving = [hand for stand, hand in chance.weaving(house)[:-1]]
            yield house, weaving[:len(weaving) // 2], len(house[2]), 0

    def test_what_is_told_is_the_askers_own(self):
        for house, weaving, n, p in self.cases():
            was = copy.deepcopy((house, weaving))
            check_own(self, lambda: answers(house, weaving, n, p))
            self.assertEqual((house, weaving), was)

    def test_what_is_handed_in_stays_as_it_was(self):
        papers = tried(HOUSE, 2, 1)[1]
        rows = timed(HOUSE)
        deeds = chain(HOUSE, (B, 4))
        weaving = end(HOUSE)[1]
        waits = {A: ("go", 0)}
        handed = (HOUSE, papers, rows, deeds, weaving, waits)
        was = copy.deepcopy(handed)
        for turn in range(2):
            self.assertIs(are_papers(HOUSE, 2, 1, papers), True)
            self.assertIs(is_timed(HOUSE, rows), True)
            self.assertIs(is_chain(HOUSE, rows, deeds), True)
            self.assertIs(is_knot(HOUSE, weaving, waits), False)
            self.assertIs(is_full(HOUSE, weaving), True)
            self.assertIs(shows_must(HOUSE, (A, 0), (B, 4), papers[(1, 0, 0)]), True)
            self.assertIs(shows_free(HOUSE, (A, 0), (B, 4), papers[(1, 0, 0)]), False)
            self.assertEqual(handed, was)
            self.assertEqual(list(papers), list(was[1]))

    def test_what_is_done_to_it_behind_the_call_changes_nothing(self):
        weaving = [A, B]
        told = [played(HOUSE, weaving), gone_on(HOUSE, weaving)]
        kept = copy.deepcopy(told)
        weaving.append((9,))
        self.assertEqual(told, kept)


class BoundsTest(unittest.TestCase):
    def check(self, house, kind):
        self.assertIs(is_house(house), True)
        self.assertEqual(sum(len(script) for script in every_hand(house).values()), 1200)
        told = end(house)
        self.assertEqual(told[0], kind)
        self.assertIs(is_full(house, told[1]), True)
        self.assertEqual(sum(played(house, told[1]).values()), len(told[1]))
        self.assertEqual(len(gone_on(house, told[1][:300])), len(told[1]) - 300)
        self.assertIs(is_knot(house, told[1], told[2] if kind == "knot" else {}), kind == "knot")
        rows = timed(house)
        self.assertIs(is_timed(house, rows), True)
        for deed in [rows[-1][:2], rows[len(rows) // 2][:2]]:
            self.assertIs(is_chain(house, rows, chain(house, deed)), True)
            self.assertEqual(moment(house, deed), dict((row[:2], row[2]) for row in rows)[deed])
        first, last = rows[0][:2], rows[-1][:2]
        for one, other in [(last, first), (first, last), ((B, 19), (A, 0)), ((A, 0), (B, 19))]:
            shown, weaving = must(house, one, other)
            self.assertIs(shows_must(house, one, other, weaving), shown == "must")
            self.assertIs(shows_free(house, one, other, weaving), shown == "free")
        self.assertIsInstance(is_plain(house), bool)
        self.assertRaises(TooMany, table, house)
        self.assertRaises(TooMany, cost, house)

    def test_a_house_at_the_bounds(self):
        house = big_house()
        self.check(house, "all")
        self.assertEqual(tried(house, 16, 0), ("holds", {}))
        self.assertIs(are_papers(house, 16, 0, {}), True)

    def test_a_knot_at_the_bounds(self):
        house = knotted_house()
        self.check(house, "knot")
        self.assertEqual(len(every_hand(house)), 60)
        self.assertEqual(len(end(house)[2]), 40)
        self.assertEqual(tried(house, 16, 0)[0], "stuck")

    def test_a_wall_at_the_bounds(self):
        house = big_wall()
        self.assertEqual(len(every_hand(house)), 60)
        self.check(house, "all")
        kind, papers = tried(house, 16, 4)
        self.assertEqual((kind, len(papers)), ("holds", 960))
        self.assertIs(are_papers(house, 16, 4, papers), True)
        papers[(15, 14, 3)].append((39,))
        self.assertIs(are_papers(house, 16, 4, papers), False)

    def test_hands_that_go_on_from_the_last_to_the_first(self):
        house = ring_house()
        told = end(house)
        self.assertEqual((told[0], len(told[1])), ("all", 239))
        self.assertEqual(going(played_by(house, told[1])), [])
        self.assertEqual(cost(house), (20, 79, 79))
        self.assertIs(is_plain(house), True)
        self.assertEqual(moment(house, (A, 11)), 160)
        self.assertEqual(len(chain(house, (A, 11))), 239)


if __name__ == "__main__":
    unittest.main()
