import unittest

from helper import Chance, at, house_of
from meetwall.errors import NoDeed
from meetwall.stands import behind, first_stand, is_stand, lifted, may_go, numbers


class MayGoTest(unittest.TestCase):
    def test_deeds_that_are_always_done(self):
        for deed in [("raise", 0, 9), ("come", 0), ("leave", 0), ("work", 7), ("say", "a"), ("begin", 1, ())]:
            house = house_of([(deed,), ()], ((0, (at(0),)),))
            self.assertEqual(may_go(house, {(0,): 0}), [(0,)], deed)
            self.assertEqual(behind(house, {(0,): 0}, (0,))[(0,)], 1)

    def test_an_await_below_at_and_above_its_number(self):
        house = house_of([(("await", 0, 3),), (("raise", 0, 2), ("raise", 0, 1), ("raise", 0, 1))],
                         ((0, ()), (1, ())))
        self.assertEqual(may_go(house, {(0,): 0, (1,): 0}), [(1,)])
        self.assertEqual(may_go(house, {(0,): 0, (1,): 1}), [(1,)])
        self.assertEqual(may_go(house, {(0,): 0, (1,): 2}), [(0,), (1,)])
        self.assertEqual(may_go(house, {(0,): 0, (1,): 3}), [(0,)])

    def test_an_await_of_another_box(self):
        house = house_of([(("raise", 0, 9), ("await", 1, 1))])
        self.assertEqual(may_go(house, {(0,): 1}), [])

    def test_a_go_by_lifted(self):
        script = (("come", 0), ("go", 0), ("come", 0), ("go", 0), ("work", 1))
        house = house_of([script], ((0, (at(0),)), (0, (at(0),))))
        self.assertEqual(may_go(house, {(0,): 1, (1,): 0}), [(1,)])
        self.assertEqual(may_go(house, {(0,): 1, (1,): 1}), [(0,), (1,)])
        self.assertEqual(may_go(house, {(0,): 3, (1,): 1}), [(1,)])
        self.assertEqual(may_go(house, {(0,): 3, (1,): 2}), [(1,)])
        self.assertEqual(may_go(house, {(0,): 3, (1,): 3}), [(0,), (1,)])

    def test_a_go_by_none(self):
        house = house_of([(("go", 0), ("go", 0))], ((0, (at(0, "go"),)),))
        self.assertEqual(may_go(house, {(0,): 0}), [(0,)])
        self.assertEqual(may_go(house, {(0,): 1}), [(0,)])
        self.assertEqual(may_go(house, {(0,): 2}), [])

    def test_a_go_when_the_last_comer_has_done_all(self):
        house = house_of([(("go", 0), ("go", 0)), (("come", 0),)], ((0, (at(0, "go"),)), (1, (at(0, "come"),))))
        self.assertEqual(may_go(house, {(0,): 0, (1,): 0}), [(1,)])
        self.assertEqual(may_go(house, {(0,): 1, (1,): 1}), [(0,)])

    def test_a_go_when_the_last_comer_has_left(self):
        house = house_of([(("go", 0),), (("leave", 0), ("work", 1))], ((0, (at(0, "go"),)), (1, (at(0, "come"),))))
        self.assertEqual(may_go(house, {(0,): 0, (1,): 0}), [(1,)])
        self.assertEqual(may_go(house, {(0,): 0, (1,): 1}), [(0,), (1,)])

    def test_comes_more_than_once_ahead(self):
        script = (("come", 0), ("come", 0), ("go", 0), ("go", 0), ("go", 0), ("work", 1))
        house = house_of([script], ((0, (at(0),)), (0, (at(0),))))
        self.assertEqual(may_go(house, {(0,): 2, (1,): 0}), [(1,)])
        self.assertEqual(may_go(house, {(0,): 2, (1,): 1}), [(0,), (1,)])
        self.assertEqual(may_go(house, {(0,): 3, (1,): 1}), [(1,)])
        self.assertEqual(may_go(house, {(0,): 3, (1,): 2}), [(0,), (1,)])
        self.assertEqual(may_go(house, {(0,): 4, (1,): 4}), [])

    def test_a_lone_hand_waits_for_its_own_come(self):
        house = house_of([(("go", 0), ("come", 0))], ((0, (at(0),)),))
        self.assertEqual(may_go(house, {(0,): 0}), [])

    def test_a_begun_hand_goes_on_from_its_beginners_goes(self):
        script = (("come", 0), ("go", 0), ("begin", 1, (at(0, "go"),)), ("come", 0), ("work", 1))
        house = house_of([script, (("go", 0), ("go", 0))], ((0, (at(0),)),))
        self.assertEqual(may_go(house, {(0,): 3, (0, 0): 0}), [(0,)])
        self.assertEqual(may_go(house, {(0,): 4, (0, 0): 0}), [(0,), (0, 0)])
        self.assertEqual(may_go(house, {(0,): 4, (0, 0): 1}), [(0,)])
        self.assertEqual(may_go(house, {(0,): 5, (0, 0): 1}), [(0, 0)])

    def test_those_that_have_done_all_may_not(self):
        house = house_of([(("work", 1),), ()], ((0, ()), (1, ())))
        self.assertEqual(may_go(house, {(0,): 0, (1,): 0}), [(0,)])
        self.assertEqual(may_go(house, {(0,): 1, (1,): 0}), [])

    def test_hands_are_sorted_as_tuples_are(self):
        house = house_of([(("begin", 1, ()), ("work", 1)), (("work", 2),)], ((0, ()),) * 12)
        stand = {(number,): 0 for number in reversed(range(12))}
        self.assertEqual(may_go(house, stand), [(number,) for number in range(12)])
        stand = {**stand, (11,): 1, (1,): 1, (1, 0): 0, (11, 0): 0}
        told = [(0,), (1,), (1, 0)] + [(number,) for number in range(2, 12)] + [(11, 0)]
        self.assertEqual(may_go(house, stand), told)


class BehindTest(unittest.TestCase):
    def test_one_more_is_done_by_this_hand_alone(self):
        house = house_of([(("work", 1), ("work", 1))], ((0, ()),) * 3)
        self.assertEqual(behind(house, {(0,): 0, (1,): 1, (2,): 2}, (1,)), {(0,): 0, (1,): 2, (2,): 2})
        self.assertEqual(behind(house, {(0,): 0, (1,): 1, (2,): 2}, (0,)), {(0,): 1, (1,): 1, (2,): 2})

    def test_a_begin_puts_the_new_hand_in_with_none_done(self):
        script = (("begin", 1, ()), ("work", 1), ("begin", 1, ()), ("begin", 2, ()))
        house = house_of([script, (("begin", 2, ()),), ()])
        stand = behind(house, first_stand(house), (0,))
        self.assertEqual(stand, {(0,): 1, (0, 0): 0})
        self.assertEqual(behind(house, stand, (0,)), {(0,): 2, (0, 0): 0})
        self.assertEqual(behind(house, stand, (0, 0)), {(0,): 1, (0, 0): 1, (0, 0, 0): 0})
        self.assertEqual(behind(house, {(0,): 2, (0, 0): 0}, (0,)), {(0,): 3, (0, 0): 0, (0, 1): 0})
        self.assertEqual(behind(house, {(0,): 3, (0, 0): 0, (0, 1): 0}, (0,)),
                         {(0,): 4, (0, 0): 0, (0, 1): 0, (0, 2): 0})

    def test_a_stand_that_no_weaving_comes_to_is_gone_on_from(self):
        house = house_of([(("await", 0, 5), ("work", 1))])
        self.assertEqual(behind(house, {(0,): 1}, (0,)), {(0,): 2})
        with self.assertRaises(NoDeed):
            behind(house, {(0,): 0}, (0,))

    def test_every_hand_but_those_that_may_is_refused(self):
        for seed in range(100):
            chance = Chance(seed)
            house = chance.house()
            stand = chance.stand(house)
            going = may_go(house, stand)
            for hand in stand:
                if hand in going:
                    self.assertIs(is_stand(house, behind(house, stand, hand)), True)
                else:
                    with self.assertRaises(NoDeed):
                        behind(house, stand, hand)


class WeavingsTest(unittest.TestCase):
    def stands(self):
        for seed in range(150):
            chance = Chance(seed)
            house = chance.house(scripts=3, most=6, firsts=3)
            for stand, hand in chance.weaving(house):
                yield house, stand, hand

    def test_two_hands_in_either_order_come_to_the_same_stand(self):
        pairs = 0
        for house, stand, hand in self.stands():
            going = may_go(house, stand)
            for one in going:
                for other in going:
                    if one < other:
                        by_one = behind(house, behind(house, stand, one), other)
                        by_other = behind(house, behind(house, stand, other), one)
                        self.assertEqual(by_one, by_other)
                        pairs += 1
        self.assertGreater(pairs, 500)

    def test_nothing_sinks_and_whoever_else_might_may_still(self):
        for house, stand, hand in self.stands():
            for one in may_go(house, stand):
                later = behind(house, stand, one)
                for was, now in zip(numbers(house, stand), numbers(house, later), strict=True):
                    self.assertLessEqual(was, now)
                for wall in range(house[1]):
                    was, now = lifted(house, stand, wall), lifted(house, later, wall)
                    self.assertTrue(now is None or was is not None and was <= now, (house, stand, one))
                others = [other for other in may_go(house, stand) if other != one]
                self.assertLessEqual(set(others), set(may_go(house, later)))

    def test_lifted_stays_through_a_begin_that_is_the_last_deed(self):
        script = (("come", 0), ("begin", 1, (at(0, "come"),)))
        house = house_of([script, (("come", 0), ("work", 1))], ((0, (at(0),)),))
        self.assertEqual(lifted(house, {(0,): 1}, 0), 1)
        self.assertEqual(lifted(house, {(0,): 2, (0, 0): 0}, 0), 1)
        self.assertEqual(lifted(house, {(0,): 2, (0, 0): 1}, 0), 2)


if __name__ == "__main__":
    unittest.main()
