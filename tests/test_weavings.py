import unittest

from helper import (Chance, at, by_turns, every_hand, first_one, going, house_of, last_one, played_by, small_houses,
                    woven)
from meetwall.errors import NoDeed
from meetwall.stands import first_stand
from meetwall.weavings import end, gone_on, is_full, is_knot, played

# Two meet at wall 0; the first of them begins one that awaits what both raise.
MEETING = house_of([(("begin", 2, ()), ("come", 0), ("go", 0), ("raise", 0, 1)),
                    (("come", 0), ("go", 0), ("raise", 0, 1)), (("await", 0, 2), ("say", "both"))],
                   ((0, (at(0),)), (1, (at(0),))))
WAITING = house_of([(("work", 1), ("await", 0, 1), ("begin", 1, ())), (("raise", 0, 1),)])
IDLE = house_of([()], ((0, ()), (0, ())))


def drawn(count=150, **sizes):
    for seed in range(count):
        chance = Chance(seed)
        yield chance.house(**sizes), chance


def next_deed(house, player, hand):
    return every_hand(house)[hand][player.hands[hand]["done"]]


class PlayedTest(unittest.TestCase):
    def refused(self, house, weaving):
        for asked in (played, is_full, gone_on):
            self.assertRaises(NoDeed, asked, house, weaving)

    def test_the_empty_weaving(self):
        self.assertEqual(played(MEETING, []), {(0,): 0, (1,): 0})
        self.assertIs(is_full(MEETING, []), False)
        self.assertEqual(played(IDLE, []), {(0,): 0, (1,): 0})
        self.assertIs(is_full(IDLE, []), True)
        self.assertEqual(gone_on(IDLE, []), [])

    def test_a_weaving_step_by_step(self):
        weaving = [(1,), (0,), (0,), (0,), (1,), (0,), (1,), (0, 0), (0, 0)]
        self.assertEqual(played(MEETING, weaving[:2]), {(0,): 1, (1,): 1, (0, 0): 0})
        self.assertEqual(played(MEETING, weaving[:5]), {(0,): 3, (1,): 2, (0, 0): 0})
        self.assertEqual(played(MEETING, weaving), {(0,): 4, (1,): 3, (0, 0): 2})
        self.assertEqual([is_full(MEETING, weaving[:cut]) for cut in range(10)], [False] * 9 + [True])
        self.assertEqual(gone_on(MEETING, weaving), [])
        self.assertEqual(gone_on(MEETING, weaving[:7]), [(0, 0), (0, 0)])

    def test_a_full_weaving_may_leave_hands(self):
        self.assertIs(is_full(WAITING, []), False)
        self.assertIs(is_full(WAITING, [(0,)]), True)
        self.assertEqual(gone_on(WAITING, []), [(0,)])

    def test_weavings_cut_at_each_place(self):
        for house, chance in drawn(100):
            rows = chance.weaving(house)
            weaving = [hand for stand, hand in rows[:-1]]
            for cut, (stand, hand) in enumerate(rows):
                self.assertEqual(played(house, weaving[:cut]), stand)
                self.assertIs(is_full(house, weaving[:cut]), hand is None)
                behind = gone_on(house, weaving[:cut])
                self.assertIsInstance(behind, list)
                self.assertEqual(len(behind), len(weaving) - cut)
                self.assertEqual(going(played_by(house, weaving[:cut] + behind)), [])
                self.assertIs(is_full(house, weaving[:cut] + behind), True)
            self.assertEqual(gone_on(house, weaving), [])

    def test_a_hand_that_may_not_go_on_is_refused_at_whichever_place(self):
        refused = 0
        for house, chance in drawn(60):
            every = sorted(every_hand(house)) + [(), (9,), (-1,), (0, 9), (0, -1), (0, 0, 0, 0)]
            weaving = woven(house, lambda hands, turn: chance.draw.choice(hands))
            for cut in range(len(weaving) + 1):
                able = going(played_by(house, weaving[:cut]))
                for hand in every:
                    if hand not in able:
                        self.refused(house, weaving[:cut] + [hand])
                        self.refused(house, weaving[:cut] + [hand] + weaving[cut:])
                        refused += 1
        self.assertGreater(refused, 1000)

    def test_why_a_hand_may_not(self):
        self.refused(MEETING, [(0, 0)])
        self.refused(MEETING, [(0, 0), (0,)])
        self.refused(MEETING, [(2,)])
        self.refused(MEETING, [(0,), (0, 1)])
        self.refused(MEETING, [(0,), (0, 0)])
        self.refused(MEETING, [(1,), (1,)])
        self.refused(MEETING, [(1,), (0,), (0,), (1,), (1,), (1,)])
        self.refused(MEETING, [()])
        self.refused(IDLE, [(0,)])
        self.refused(WAITING, [(0,), (0,)])
        self.refused(WAITING, [(0,), (0, 0)])

    def test_things_that_are_no_hands_are_refused(self):
        for hand in [None, 0, "0", [0], {}, (False,), ("0",), ((0,),)]:
            self.refused(MEETING, [hand])
            self.refused(MEETING, [(0,), hand])
        self.refused(MEETING, ((0,),))

    def test_all_full_weavings_are_as_long_and_end_in_the_same_stand(self):
        for house, chance in drawn(200, most=7):
            picks = [first_one, last_one, by_turns] + [lambda hands, turn: chance.draw.choice(hands)] * 3
            weavings = [woven(house, pick) for pick in picks] + [end(house)[1], gone_on(house, [])]
            for weaving in weavings:
                self.assertEqual(len(weaving), len(weavings[0]))
                self.assertEqual(played(house, weaving), played(house, weavings[0]))
                self.assertIs(is_full(house, weaving), True)


class EndTest(unittest.TestCase):
    def check(self, house):
        told = end(house)
        self.assertIsInstance(told, tuple)
        player = played_by(house, told[1])
        self.assertIsInstance(told[1], list)
        self.assertEqual(going(player), [])
        scripts = every_hand(house)
        left = [hand for hand in player.hands if player.hands[hand]["done"] < len(scripts[hand])]
        if sorted(player.hands) == sorted(scripts) and not left:
            self.assertEqual((told[0], len(told)), ("all", 2))
            self.assertIs(is_knot(house, told[1], {}), False)
        else:
            self.assertEqual((told[0], len(told)), ("knot", 3))
            self.assertEqual(told[2], {hand: next_deed(house, player, hand) for hand in left})
            self.assertTrue(all(deed[0] in ("await", "go") for deed in told[2].values()))
            self.assertIs(is_knot(house, told[1], told[2]), True)
        return told

    def test_drawn_houses(self):
        kinds = [self.check(house)[0] for house, chance in drawn(300)]
        self.assertGreater(kinds.count("all"), 50)
        self.assertGreater(kinds.count("knot"), 50)

    def test_all(self):
        self.assertEqual(self.check(MEETING)[0], "all")
        self.assertEqual(self.check(IDLE), ("all", []))
        self.assertEqual(self.check(house_of([(("begin", 1, ()),), ()])), ("all", [(0,)]))
        self.assertEqual(self.check(house_of([(("begin", 1, ()),), (("work", 3),)])), ("all", [(0,), (0, 0)]))

    def test_hands_that_are_never_begun_are_not_among_the_waits(self):
        self.assertEqual(self.check(WAITING), ("knot", [(0,)], {(0,): ("await", 0, 1)}))
        house = house_of([(("begin", 1, ()), ("say", "on")), (("await", 1, 1), ("begin", 2, ()), ("begin", 2, ())),
                          (("work", 1),)])
        self.assertEqual(self.check(house)[2], {(0, 0): ("await", 1, 1)})

    def test_an_await_and_a_go(self):
        house = house_of([(("come", 0), ("go", 0), ("raise", 0, 1)), (("await", 0, 1), ("come", 0))],
                         ((0, (at(0),)), (1, (at(0),)), (1, (at(0),))))
        self.assertEqual(self.check(house), ("knot", [(0,)], {(0,): ("go", 0), (1,): ("await", 0, 1),
                                                              (2,): ("await", 0, 1)}))

    def test_a_hand_that_waits_though_all_others_have_done_all(self):
        house = house_of([(("raise", 0, 2),), (("await", 0, 3),), ()], ((0, ()), (1, ()), (2, ())))
        self.assertEqual(self.check(house), ("knot", [(0,)], {(1,): ("await", 0, 3)}))

    def test_one_deed_left(self):
        self.assertEqual(self.check(house_of([(("go", 0),)], ((0, (at(0),)),))), ("knot", [], {(0,): ("go", 0)}))
        self.assertEqual(self.check(house_of([(("go", 0),)], ((0, (at(0, "go"),)),))), ("all", [(0,)]))


class IsKnotTest(unittest.TestCase):
    HOUSE = house_of([(("work", 1), ("await", 0, 4)), (("come", 0), ("go", 0)), (("raise", 0, 3), ("work", 1)),
                      (("await", 1, 1), ("come", 0), ("begin", 4, ())), (("work", 5),)],
                     ((0, ()), (1, (at(0),)), (2, ()), (3, (at(0),))))
    WEAVING = [(0,), (1,), (2,), (2,)]
    WAITS = {(0,): ("await", 0, 4), (1,): ("go", 0), (3,): ("await", 1, 1)}

    def no(self, weaving, waits):
        self.assertIs(is_knot(self.HOUSE, weaving, waits), False, (weaving, waits))

    def test_every_full_weaving_will_do(self):
        self.assertEqual(end(self.HOUSE)[2], self.WAITS)
        for weaving in [self.WEAVING, self.WEAVING[::-1], [(2,), (0,), (2,), (1,)], end(self.HOUSE)[1]]:
            self.assertIs(is_knot(self.HOUSE, weaving, self.WAITS), True)
            self.assertIs(is_knot(self.HOUSE, weaving, dict(sorted(self.WAITS.items(), reverse=True))), True)

    def test_no_weaving(self):
        for weaving in [self.WEAVING + [(2,)], self.WEAVING + [(0,)], self.WEAVING + [(3, 0)], [(3,)] + self.WEAVING,
                        [(9,)], [()], [(3, 0)] + self.WEAVING, self.WEAVING[:3] + [(1,)] + self.WEAVING[3:]]:
            self.no(weaving, self.WAITS)

    def test_not_full(self):
        for cut in range(len(self.WEAVING)):
            self.no(self.WEAVING[:cut], self.WAITS)
        stand = {(0,): ("await", 0, 4), (1,): ("go", 0), (2,): ("work", 1), (3,): ("await", 1, 1)}
        self.no(self.WEAVING[:3], stand)

    def test_a_wait_too_few(self):
        for hand in self.WAITS:
            self.no(self.WEAVING, {other: deed for other, deed in self.WAITS.items() if other != hand})
        self.no(self.WEAVING, {})

    def test_a_wait_too_many(self):
        for hand in [(2,), (4,), (3, 0), (0, 0), (), (-1,)]:
            for deed in [("await", 0, 4), ("go", 0), ("work", 1), ("work", 5)]:
                self.no(self.WEAVING, {**self.WAITS, hand: deed})

    def test_a_wait_of_another_deed(self):
        for hand, deed in [((0,), ("await", 0, 3)), ((0,), ("await", 1, 4)), ((0,), ("work", 1)), ((0,), ("go", 0)),
                           ((1,), ("come", 0)), ((1,), ("go", 1)), ((1,), ("await", 0, 4)), ((3,), ("await", 0, 4)),
                           ((3,), ("come", 0)), ((3,), ("begin", 4, ())), ((3,), ("await", 1))]:
            self.no(self.WEAVING, {**self.WAITS, hand: deed})

    def test_one_hand_in_anothers_place(self):
        for hand in self.WAITS:
            for other in [(2,), (4,), (3, 0)]:
                waits = dict(self.WAITS)
                waits[other] = waits.pop(hand)
                self.no(self.WEAVING, waits)

    def test_never_where_no_hand_is_left(self):
        self.assertIs(is_knot(IDLE, [], {}), False)
        self.assertIs(is_knot(MEETING, end(MEETING)[1], {}), False)
        self.assertIs(is_knot(MEETING, end(MEETING)[1], {(0,): ("go", 0)}), False)

    def test_truths_are_no_whole_numbers(self):
        house = house_of([(("await", 0, 1),), (("await", 1, 1),)], ((0, ()), (1, ())))
        waits = {(0,): ("await", 0, 1), (1,): ("await", 1, 1)}
        self.assertIs(is_knot(house, [], waits), True)
        self.assertIs(is_knot(house, [], {(0,): ("await", 0, 1), (True,): ("await", 1, 1)}), False)
        self.assertIs(is_knot(house, [], {**waits, (1,): ("await", True, 1)}), False)

    def test_other_things(self):
        for waits in [None, [], list(self.WAITS), list(self.WAITS.items()), {**self.WAITS, (0,): None},
                      {**self.WAITS, (0,): ["await", 0, 4]}]:
            self.no(self.WEAVING, waits)
        for weaving in [None, tuple(self.WEAVING), "", [None]]:
            self.no(weaving, self.WAITS)

    def test_drawn_houses(self):
        for house, stands, chance in small_houses(60):
            told = end(house)
            waits = told[2] if told[0] == "knot" else {}
            for pick in (first_one, last_one, by_turns):
                weaving = woven(house, pick)
                self.assertIs(is_knot(house, weaving, waits), told[0] == "knot")
                self.assertIs(is_knot(house, weaving[:-1], waits), False)
                self.assertIs(is_knot(house, weaving + weaving[-1:], waits), False)


class ReachedTest(unittest.TestCase):
    def test_what_is_played_are_the_stands_that_are_reached(self):
        for house, stands, chance in small_houses(30):
            self.assertIn(first_stand(house), stands)
            self.assertIn(played(house, end(house)[1]), stands)
            for stand in stands:
                self.assertLessEqual(sum(stand.values()), len(end(house)[1]))


if __name__ == "__main__":
    unittest.main()
