import unittest

from helper import Chance, at, house_of, player_at
from meetwall.stands import behind, first_stand, hands, is_stand, lifted, may_go, numbers

# Script 0 begins 1, does something, begins 2; script 1 begins 2; script 2 has no deeds.
NESTED = house_of([(("begin", 1, (at(0),)), ("work", 1), ("begin", 2, (at(0, "go"),))),
                   (("say", "a"), ("begin", 2, (at(0, "come"),))), ()],
                  ((0, (at(0), at(1))), (1, (at(0),))))


class HandsTest(unittest.TestCase):
    def test_firsts_alone(self):
        house = house_of([(), (("work", 1),)], ((1, ()), (0, (at(2, "go"),)), (1, ())))
        self.assertEqual(hands(house), {(0,): (1, ()), (1,): (0, ((2, "go"),)), (2,): (1, ())})

    def test_begun_ones(self):
        self.assertEqual(hands(NESTED), {
            (0,): (0, ((0, "both"), (1, "both"))), (1,): (1, ((0, "both"),)),
            (0, 0): (1, ((0, "both"),)), (0, 1): (2, ((0, "go"),)),
            (0, 0, 0): (2, ((0, "come"),)), (1, 0): (2, ((0, "come"),))})

    def test_a_begin_is_counted_by_begins_not_by_deeds(self):
        script = (("say", "a"), ("begin", 1, ()), ("say", "b"), ("begin", 2, ()), ("begin", 1, ()))
        self.assertEqual(hands(house_of([script, (), ()])), {
            (0,): (0, ()), (0, 0): (1, ()), (0, 1): (2, ()), (0, 2): (1, ())})

    def test_hands_that_no_weaving_begins_are_told_too(self):
        house = house_of([(("await", 0, 1), ("begin", 1, ())), ()])
        self.assertEqual(sorted(hands(house)), [(0,), (0, 0)])

    def test_what_is_told_are_tuples(self):
        for hand, calling in hands(NESTED).items():
            self.assertIsInstance(hand, tuple)
            self.assertIsInstance(calling, tuple)


class IsStandTest(unittest.TestCase):
    def yes(self, house, stand):
        self.assertIs(is_stand(house, stand), True, stand)

    def no(self, house, stand):
        self.assertIs(is_stand(house, stand), False, stand)

    def test_first_stand(self):
        self.assertEqual(first_stand(NESTED), {(0,): 0, (1,): 0})
        self.assertEqual(first_stand(house_of([()])), {(0,): 0})
        self.yes(NESTED, first_stand(NESTED))

    def test_hands_left_out(self):
        for stand in [{}, {(0,): 0}, {(1,): 0}, {(0,): 1, (1,): 0}, {(0,): 3, (1,): 0, (0, 0): 0},
                      {(0,): 3, (1,): 0, (0, 1): 0}, {(0,): 1, (1,): 0, (0, 0): 2}]:
            self.no(NESTED, stand)

    def test_hands_too_many(self):
        for extra in [(2,), (-1,), (), (0, 0), (1, 0), (0, 1), (0, 0, 0), (0, -1), (5, 5)]:
            self.no(NESTED, {(0,): 0, (1,): 0, extra: 0})

    def test_a_begun_hand_is_there_just_where_its_begin_is_done(self):
        self.yes(NESTED, {(0,): 1, (1,): 0, (0, 0): 0})
        self.yes(NESTED, {(0,): 2, (1,): 0, (0, 0): 1})
        self.no(NESTED, {(0,): 2, (1,): 0, (0, 0): 1, (0, 1): 0})
        self.yes(NESTED, {(0,): 3, (1,): 1, (0, 0): 1, (0, 1): 0})
        self.yes(NESTED, {(0,): 3, (1,): 2, (0, 0): 2, (0, 1): 0, (0, 0, 0): 0, (1, 0): 0})
        self.no(NESTED, {(0,): 3, (1,): 2, (0, 0): 1, (0, 1): 0, (0, 0, 0): 0, (1, 0): 0})
        self.no(NESTED, {(0,): 0, (1,): 0, (0, 0, 0): 0})

    def test_numbers_below_at_and_beyond_the_length(self):
        house = house_of([(("work", 1), ("work", 2))])
        for done in (0, 1, 2):
            self.yes(house, {(0,): done})
        for done in (-1, -2, -3, 3, 100):
            self.no(house, {(0,): done})

    def test_numbers_of_begun_hands(self):
        for done, answer in ((-1, False), (0, True), (1, True), (3, False)):
            self.assertIs(is_stand(NESTED, {(0,): 1, (1,): 0, (0, 0): done}), answer, done)
        for done, answer in ((-1, False), (0, False), (1, False), (2, True), (3, False)):
            self.assertIs(is_stand(NESTED, {(0,): 1, (1,): 0, (0, 0): done, (0, 0, 0): 0}), answer, done)
        self.no(NESTED, {(0,): 1, (1,): -1, (0, 0): 0})

    def test_scripts_without_deeds(self):
        house = house_of([()])
        self.yes(house, {(0,): 0})
        self.no(house, {(0,): 1})
        self.no(house, {(0,): -1})

    def test_stands_that_no_weaving_comes_to(self):
        house = house_of([(("await", 0, 5), ("begin", 1, ())), (("await", 0, 7),)])
        self.yes(house, {(0,): 1})
        self.yes(house, {(0,): 2, (0, 0): 1})
        self.assertEqual(may_go(house, first_stand(house)), [])

    def test_things_that_are_no_such_dicts(self):
        for thing in [None, 0, True, "", (), [], [((0,), 0)], {(0,): True, (1,): 0}, {(0,): None, (1,): 0},
                      {0: 0, 1: 0}, {"0": 0, "1": 0}, {(False,): 0, (True,): 0}, {(0,): 0.0, (1,): 0}]:
            self.no(NESTED, thing)

    def test_random_stands(self):
        for seed in range(200):
            chance = Chance(seed)
            house = chance.house()
            stand = chance.stand(house)
            self.yes(house, stand)
            for hand in stand:
                self.no(house, {other: done for other, done in stand.items() if other != hand})
            for hand in hands(house):
                if hand not in stand:
                    self.no(house, {**stand, hand: 0})


class NumbersTest(unittest.TestCase):
    def test_none_is_done(self):
        self.assertEqual(numbers(NESTED, first_stand(NESTED)), [0, 0, 0])
        self.assertEqual(numbers(house_of([()], boxes=0), {(0,): 0}), [])

    def test_sums_by_several_hands(self):
        house = house_of([(("raise", 0, 5), ("raise", 2, 99), ("raise", 0, 7)), (("say", "a"), ("raise", 0, 10))],
                         ((0, ()), (1, ()), (0, ())))
        self.assertEqual(numbers(house, {(0,): 1, (1,): 1, (2,): 0}), [5, 0, 0])
        self.assertEqual(numbers(house, {(0,): 2, (1,): 2, (2,): 1}), [20, 0, 99])
        self.assertEqual(numbers(house, {(0,): 3, (1,): 2, (2,): 3}), [34, 0, 198])

    def test_begun_ones_and_a_script_called_more_than_once(self):
        house = house_of([(("raise", 1, 2), ("begin", 1, ()), ("begin", 1, ())), (("raise", 1, 30), ("raise", 0, 1))],
                         ((0, ()), (1, ())))
        self.assertEqual(numbers(house, {(0,): 3, (1,): 1, (0, 0): 2, (0, 1): 1}), [1, 92, 0])
        self.assertEqual(numbers(house, {(0,): 1, (1,): 0}), [0, 2, 0])

    def test_awaits_and_other_deeds_fill_nothing(self):
        house = house_of([(("await", 0, 9), ("work", 9), ("come", 0), ("go", 0), ("leave", 0))], ((0, (at(0),)),))
        self.assertEqual(numbers(house, {(0,): 5}), [0, 0, 0])


class LiftedTest(unittest.TestCase):
    def test_the_least_of_how_often_they_came(self):
        script = (("come", 0),) * 3 + (("work", 1),)
        house = house_of([script], ((0, (at(0),)),) * 3)
        for comes, answer in (((0, 0, 0), 0), ((1, 0, 3), 0), ((1, 1, 1), 1), ((3, 2, 3), 2), ((3, 3, 3), 3)):
            stand = {(number,): came for number, came in enumerate(comes)}
            self.assertEqual(lifted(house, stand, 0), answer)

    def test_each_wall_by_itself(self):
        house = house_of([(("come", 1), ("come", 1), ("come", 0), ("work", 1))], ((0, (at(0), at(1))),))
        self.assertEqual([lifted(house, {(0,): 3}, wall) for wall in range(3)], [1, 2, None])

    def test_modes(self):
        script = (("say", "a"), ("say", "b"))
        comer = (("come", 0), ("say", "b"))
        both = house_of([script, comer], ((0, (at(0),)), (1, (at(0),))))
        come = house_of([script, comer], ((0, (at(0, "come"),)), (1, (at(0),))))
        go = house_of([script, comer], ((0, (at(0, "go"),)), (1, (at(0),))))
        none = house_of([script, comer], ((0, ()), (1, (at(0),))))
        stand = {(0,): 1, (1,): 1}
        self.assertEqual([lifted(house, stand, 0) for house in (both, come, go, none)], [0, 0, 1, 1])

    def test_goes_do_not_count_as_comes(self):
        house = house_of([(("come", 0), ("go", 0), ("go", 0), ("work", 1))], ((0, (at(0),)),))
        self.assertEqual(lifted(house, {(0,): 3}, 0), 1)

    def test_hands_that_left_the_wall(self):
        leaver = (("leave", 0), ("work", 1), ("work", 1))
        comer = (("come", 0), ("come", 0), ("work", 1))
        house = house_of([leaver, comer], ((0, (at(0), at(1))), (1, (at(0),))))
        self.assertEqual(lifted(house, {(0,): 0, (1,): 2}, 0), 0)
        self.assertEqual(lifted(house, {(0,): 1, (1,): 2}, 0), 2)
        self.assertEqual(lifted(house, {(0,): 1, (1,): 2}, 1), 0)

    def test_hands_that_have_done_all(self):
        house = house_of([(("work", 1),), (("come", 0), ("work", 1))], ((0, (at(0),)), (1, (at(0),))))
        self.assertEqual(lifted(house, {(0,): 0, (1,): 1}, 0), 0)
        self.assertEqual(lifted(house, {(0,): 1, (1,): 1}, 0), 1)
        self.assertIsNone(lifted(house, {(0,): 1, (1,): 2}, 0))

    def test_scripts_without_deeds(self):
        house = house_of([(), (("come", 0), ("work", 1))], ((0, (at(0),)), (1, (at(0),))))
        self.assertEqual(lifted(house, {(0,): 0, (1,): 1}, 0), 1)
        self.assertIsNone(lifted(house_of([()], ((0, (at(0),)),)), {(0,): 0}, 0))

    def test_begun_hands_count_on_from_their_beginner(self):
        script = (("come", 0), ("come", 0), ("begin", 1, (at(0),)), ("come", 0), ("work", 1))
        house = house_of([script, (("work", 1), ("come", 0), ("work", 1))], ((0, (at(0),)),))
        self.assertEqual(lifted(house, {(0,): 2}, 0), 2)
        self.assertEqual(lifted(house, {(0,): 3, (0, 0): 0}, 0), 2)
        self.assertEqual(lifted(house, {(0,): 4, (0, 0): 1}, 0), 2)
        self.assertEqual(lifted(house, {(0,): 4, (0, 0): 2}, 0), 3)
        self.assertEqual(lifted(house, {(0,): 5, (0, 0): 1}, 0), 2)

    def test_begins_within_begins(self):
        scripts = [(("come", 0), ("begin", 1, (at(0),)), ("leave", 0), ("work", 1)),
                   (("come", 0), ("begin", 3, ()), ("begin", 2, (at(0, "come"),)), ("come", 0), ("work", 1)),
                   (("work", 1), ("come", 0), ("work", 1)), ()]
        house = house_of(scripts, ((0, (at(0),)),))
        stand = {(0,): 3, (0, 0): 4, (0, 0, 0): 0, (0, 0, 1): 0}
        self.assertEqual(lifted(house, stand, 0), 2)
        self.assertEqual(lifted(house, {**stand, (0, 0, 1): 2}, 0), 3)
        self.assertEqual(lifted(house, {**stand, (0, 0, 1): 3}, 0), 3)
        self.assertIsNone(lifted(house, {**stand, (0, 0): 5, (0, 0, 1): 3}, 0))

    def test_none_where_there_is_none_of_these(self):
        house = house_of([(("work", 1),)], ((0, (at(0, "go"),)), (0, (at(1, "come"),))))
        stand = first_stand(house)
        self.assertEqual([lifted(house, stand, wall) for wall in range(3)], [None, 0, None])

    def test_random_stands_told_step_by_step(self):
        for seed in range(400):
            chance = Chance(seed)
            house = chance.house()
            for stand in [chance.stand(house) for place in range(5)]:
                player = player_at(house, stand)
                self.assertEqual(player.stand(), stand)
                self.assertEqual(numbers(house, stand), player.boxes)
                self.assertEqual([lifted(house, stand, wall) for wall in range(2)],
                                 [player.lifted(wall) for wall in range(2)], (house, stand))
                self.assertEqual(may_go(house, stand), sorted(hand for hand in stand if player.may(hand)))
                for hand in may_go(house, stand):
                    later = player_at(house, stand)
                    later.do(hand)
                    self.assertEqual(behind(house, stand, hand), later.stand())


if __name__ == "__main__":
    unittest.main()
