import copy
import unittest

from helper import Chance, at, big_house, far_house, house_of
from meetwall.errors import NoDeed, NoHand, NoHouse, NoStand, NoWall
from meetwall.houses import is_house, need_house
from meetwall.stands import behind, first_stand, hands, is_stand, lifted, may_go, numbers

HOUSE = house_of([(("come", 0), ("go", 0), ("begin", 1, (at(0),))), (("await", 0, 1),), ()],
                 ((0, (at(0),)), (0, (at(0),)), (2, ())), walls=2)
STAND = {(0,): 0, (1,): 1, (2,): 0}
NO_HOUSES = [None, True, 7, "house", [], {}, (), list(HOUSE), HOUSE[:3], far_house(), house_of([(("come", 0),)])]
NO_STANDS = [{}, {(0,): 0, (1,): 1}, {**STAND, (3,): 0}, {**STAND, (0,): 4}, {**STAND, (0,): -1}, {**STAND, (0, 0): 0}]


class RefusalsTest(unittest.TestCase):
    def test_no_house_goes_ahead_of_all(self):
        for house in NO_HOUSES:
            for stand in [STAND] + NO_STANDS:
                calls = [lambda: need_house(house), lambda: hands(house), lambda: first_stand(house),
                         lambda: is_stand(house, stand), lambda: numbers(house, stand),
                         lambda: lifted(house, stand, 0), lambda: lifted(house, stand, 9),
                         lambda: may_go(house, stand), lambda: behind(house, stand, (0,)),
                         lambda: behind(house, stand, (9,)), lambda: behind(house, stand, (2,))]
                for call in calls:
                    self.assertRaises(NoHouse, call)

    def test_no_stand_goes_ahead_of_the_rest(self):
        for stand in NO_STANDS:
            self.assertRaises(NoStand, numbers, HOUSE, stand)
            self.assertRaises(NoStand, may_go, HOUSE, stand)
            for wall in (0, 1, 2, -1):
                self.assertRaises(NoStand, lifted, HOUSE, stand, wall)
            for hand in [(0,), (1,), (2,), (9,), (0, 0), ()]:
                self.assertRaises(NoStand, behind, HOUSE, stand, hand)

    def test_no_wall(self):
        for wall in (-1, -2, 2, 3, 100):
            self.assertRaises(NoWall, lifted, HOUSE, STAND, wall)
        self.assertEqual([lifted(HOUSE, STAND, wall) for wall in (0, 1)], [0, None])
        self.assertRaises(NoWall, lifted, house_of([()], walls=0), {(0,): 0}, 0)

    def test_no_hand(self):
        for hand in [(3,), (-1,), (), (0, 0), (0, 0, 0), (0, 1), (5, 5), (2, 0)]:
            self.assertRaises(NoHand, behind, HOUSE, STAND, hand)

    def test_no_hand_for_things_that_are_no_names_of_hands(self):
        for hand in [None, 0, "0", [0], {}, (True,), (False,), ("0",), ([0],)]:
            self.assertRaises(NoHand, behind, HOUSE, STAND, hand)

    def test_no_deed(self):
        self.assertRaises(NoDeed, behind, HOUSE, STAND, (1,))
        self.assertRaises(NoDeed, behind, HOUSE, STAND, (2,))
        stand = {(0,): 3, (1,): 1, (2,): 0, (0, 0): 0}
        self.assertRaises(NoDeed, behind, HOUSE, stand, (0,))
        self.assertRaises(NoDeed, behind, HOUSE, stand, (0, 0))
        self.assertEqual(behind(HOUSE, STAND, (0,)), {(0,): 1, (1,): 1, (2,): 0})


class OwnTest(unittest.TestCase):
    def told(self, house, stand):
        answers = [hands(house), first_stand(house), is_stand(house, stand), numbers(house, stand)]
        answers += [lifted(house, stand, wall) for wall in range(house[1])]
        going = may_go(house, stand)
        return answers + [going] + [behind(house, stand, hand) for hand in going]

    def spoil(self, answer):
        if isinstance(answer, dict):
            answer.clear()
            answer[(7, 7)] = 7
        if isinstance(answer, list):
            answer.append((9,))
            answer.reverse()

    def cases(self):
        yield HOUSE, dict(STAND)
        for seed in range(60):
            chance = Chance(seed)
            house = chance.house()
            yield house, chance.stand(house)

    def test_what_is_handed_in_stays_and_what_is_told_is_the_askers_own(self):
        for house, stand in self.cases():
            house_was, stand_was = copy.deepcopy(house), list(stand.items())
            answers = self.told(house, stand)
            kept = copy.deepcopy(answers)
            for answer in answers:
                self.spoil(answer)
            self.assertEqual(house, house_was)
            self.assertEqual(list(stand.items()), stand_was)
            self.assertEqual(self.told(house, stand), kept)

    def test_a_stand_is_not_kept(self):
        house = house_of([(("work", 1), ("work", 1))])
        stand = {(0,): 0}
        later = behind(house, stand, (0,))
        stand[(0,)] = 2
        self.assertEqual(later, {(0,): 1})
        self.assertEqual(may_go(house, stand), [])

    def test_equal_stands_in_another_order_are_told_the_same_of(self):
        for house, stand in self.cases():
            names = sorted(stand)
            for order in (names, names[::-1], sorted(names, key=lambda name: (name[-1], name))):
                other = {hand: stand[hand] for hand in order}
                self.assertEqual(self.told(house, other), self.told(house, stand))

    def test_refusals_change_nothing(self):
        stand = dict(STAND)
        self.assertRaises(NoDeed, behind, HOUSE, stand, (1,))
        self.assertEqual(stand, STAND)


class BoundsTest(unittest.TestCase):
    def test_a_house_at_the_bounds_is_answered_by_every_def(self):
        house = big_house()
        self.assertIs(is_house(house), True)
        self.assertIsNone(need_house(house))
        every = hands(house)
        self.assertEqual(len(every), 60)
        self.assertEqual(sum(len(house[3][script]) for script, members in every.values()), 1200)
        stand = first_stand(house)
        self.assertEqual(len(stand), 40)
        self.assertEqual(numbers(house, stand), [0] * 99)
        self.assertEqual(may_go(house, stand), [(number,) for number in range(40)])
        self.assertEqual(lifted(house, stand, 5), 0)

    def test_a_house_at_the_bounds_is_gone_on_with_to_its_end(self):
        house = big_house()
        stand = first_stand(house)
        while may_go(house, stand):
            for hand in may_go(house, stand):
                stand = behind(house, stand, hand)
        self.assertEqual(sum(stand.values()), 1200)
        self.assertIs(is_stand(house, stand), True)
        self.assertEqual(numbers(house, stand), [0] * 98 + [20 * 3 + 20 * 4 + 20 * 8])
        self.assertEqual([lifted(house, stand, wall) for wall in range(6)], [None] * 6)

    def test_twenty_begins_within_begins(self):
        scripts = [(("come", 0), ("begin", number + 1, (at(0),)), ("work", 1)) for number in range(19)]
        house = house_of(scripts + [(("come", 0), ("work", 1))], ((0, (at(0),)),))
        self.assertEqual(sorted(hands(house), key=len)[-1], (0,) * 20)
        stand = {(0,) * depth: 2 for depth in range(1, 20)}
        stand[(0,) * 20] = 1
        self.assertIs(is_stand(house, stand), True)
        self.assertEqual(lifted(house, stand, 0), 1)
        stand = {**{hand: 3 for hand in stand}, (0,) * 20: 1}
        self.assertEqual(lifted(house, stand, 0), 20)


if __name__ == "__main__":
    unittest.main()
