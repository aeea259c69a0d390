import itertools
import unittest

from helper import (Chance, at, every_deed, every_hand, going, has_done, house_of, played_by, reached, small_houses,
                    woven)
from meetwall.errors import NoDeed, NoHand, TooMany
from meetwall.musts import must, shows_free, shows_must, table
from meetwall.weavings import end, played

A, B, C = (0,), (1,), (2,)


def is_must_by_words(house, one, other, weaving):
    player = played_by(house, weaving)
    if player is None or has_done(player.stand(), one) or has_done(player.stand(), other):
        return False
    return all((hand, player.stand()[hand]) == one for hand in going(player))


def is_free_by_words(house, one, other, weaving):
    player = played_by(house, weaving)
    if player is None or not weaving or has_done(player.stand(), one):
        return False
    return weaving[-1] == other[0] and player.stand()[other[0]] == other[1] + 1


def pairs(house):
    return list(itertools.permutations(every_deed(house), 2))


class MustTest(unittest.TestCase):
    def told(self, house, one, other):
        """What must tells, seen to be what it says, by words and by the package."""
        kind, weaving = must(house, one, other)
        self.assertIsInstance(weaving, list)
        self.assertIn(kind, ("must", "free"))
        self.assertIs(is_must_by_words(house, one, other, weaving), kind == "must", (house, one, other))
        self.assertIs(is_free_by_words(house, one, other, weaving), kind == "free", (house, one, other))
        self.assertIs(shows_must(house, one, other, weaving), kind == "must")
        self.assertIs(shows_free(house, one, other, weaving), kind == "free")
        return kind

    def test_it_is_so_in_all_weavings(self):
        kinds = []
        for house, stands, chance in small_houses(60, most=4):
            for one, other in pairs(house):
                without = [stand for stand in stands if has_done(stand, other) and not has_done(stand, one)]
                kinds.append(self.told(house, one, other))
                self.assertEqual(kinds[-1], "free" if without else "must", (house, one, other))
        self.assertGreater(kinds.count("must"), 500)
        self.assertGreater(kinds.count("free"), 500)

    def test_two_deeds_of_one_hand(self):
        house = house_of([(("work", 1), ("work", 2), ("say", "on"))])
        self.assertEqual(must(house, (A, 0), (A, 1)), ("must", []))
        self.assertEqual(must(house, (A, 1), (A, 2)), ("must", [A]))
        self.assertEqual(must(house, (A, 1), (A, 0)), ("free", [A]))
        self.assertEqual(must(house, (A, 2), (A, 0)), ("free", [A]))
        self.assertEqual(must(house, (A, 2), (A, 1)), ("free", [A, A]))

    def test_an_await(self):
        house = house_of([(("raise", 0, 1), ("raise", 0, 1)), (("await", 0, 1), ("await", 0, 2))], ((0, ()), (1, ())))
        self.assertEqual(self.told(house, (A, 0), (B, 0)), "must")
        self.assertEqual(self.told(house, (A, 1), (B, 0)), "free")
        self.assertEqual(self.told(house, (A, 1), (B, 1)), "must")
        self.assertEqual(self.told(house, (B, 0), (A, 0)), "free")

    def test_either_of_two_will_do(self):
        house = house_of([(("raise", 0, 1),), (("await", 0, 1),)], ((0, ()), (0, ()), (1, ())))
        self.assertEqual(self.told(house, (A, 0), (C, 0)), "free")
        self.assertEqual(self.told(house, (B, 0), (C, 0)), "free")

    def test_a_begin(self):
        house = house_of([(("work", 1), ("begin", 1, ()), ("raise", 0, 1)), (("work", 1), ("await", 0, 1))])
        begun = (0, 0)
        self.assertEqual(self.told(house, (A, 0), (begun, 0)), "must")
        self.assertEqual(self.told(house, (A, 1), (begun, 0)), "must")
        self.assertEqual(self.told(house, (A, 2), (begun, 0)), "free")
        self.assertEqual(self.told(house, (A, 2), (begun, 1)), "must")

    def test_no_weaving_does_the_other(self):
        house = house_of([(("work", 1), ("await", 0, 1), ("work", 2), ("begin", 2, ())), (("work", 1), ("work", 1)),
                          (("work", 3),)], ((0, ()), (1, ())))
        for other in [(A, 1), (A, 2), (A, 3), ((0, 0), 0)]:
            for one in every_deed(house):
                if one != other:
                    self.assertEqual(self.told(house, one, other), "must", (one, other))

    def test_the_one_is_never_done(self):
        house = house_of([(("await", 0, 1), ("raise", 1, 1)), (("work", 1), ("await", 1, 1))], ((0, ()), (1, ())))
        self.assertEqual(self.told(house, (A, 0), (B, 0)), "free")
        self.assertEqual(self.told(house, (A, 1), (B, 0)), "free")
        self.assertEqual(self.told(house, (A, 1), (B, 1)), "must")
        self.assertEqual(self.told(house, (A, 1), (A, 0)), "must")

    def test_the_hand_held_back_stays_a_member_of_its_walls(self):
        comer = (("work", 1), ("come", 0), ("work", 2))
        house = house_of([comer, (("go", 0), ("go", 0))], ((0, (at(0, "come"),)), (1, (at(0, "go"),))))
        self.assertEqual(must(house, (A, 0), (B, 0)), ("must", []))
        self.assertEqual(must(house, (A, 1), (B, 0)), ("must", [A]))
        self.assertEqual(self.told(house, (A, 2), (B, 0)), "free")
        self.assertEqual(self.told(house, (A, 2), (B, 1)), "must")
        house = house_of([(("leave", 0), ("work", 1)), (("go", 0),)], ((0, (at(0, "come"),)), (1, (at(0, "go"),))))
        self.assertEqual(must(house, (A, 0), (B, 0)), ("must", []))
        self.assertEqual(self.told(house, (A, 1), (B, 0)), "free")

    def test_a_hand_that_is_not_there_when_it_is_held_back(self):
        house = house_of([(("await", 0, 1), ("begin", 1, ())), (("work", 1),), (("raise", 0, 1), ("say", "go"))],
                         ((0, ()), (2, ())))
        self.assertEqual(self.told(house, ((0, 0), 0), (B, 1)), "free")
        self.assertEqual(self.told(house, (B, 0), ((0, 0), 0)), "must")
        self.assertEqual(self.told(house, ((0, 0), 0), (A, 1)), "free")


class ShownTest(unittest.TestCase):
    # A raises, B awaits it, C works by itself.
    HOUSE = house_of([(("work", 1), ("raise", 0, 1), ("say", "done")), (("work", 1), ("await", 0, 1), ("say", "heard")),
                      (("work", 1),)], ((0, ()), (1, ()), (2, ())))

    def shown(self, one, other, weaving):
        return (shows_must(self.HOUSE, one, other, weaving), shows_free(self.HOUSE, one, other, weaving))

    def test_must(self):
        for weaving in [[A, B, C], [C, B, A], [B, A, C]]:
            self.assertEqual(self.shown((A, 1), (B, 1), weaving), (True, False))
            self.assertEqual(self.shown((A, 1), (B, 2), weaving), (True, False))
        self.assertEqual(self.shown((A, 0), (B, 1), [B, C]), (True, False))

    def test_others_may_go_on_still(self):
        for weaving in [[], [A], [B], [C], [A, C], [A, B], [B, C]]:
            self.assertEqual(self.shown((A, 1), (B, 1), weaving), (False, False))

    def test_the_ones_hand_may_go_on_to_another_deed(self):
        self.assertEqual(self.shown((A, 1), (B, 1), [B, C]), (False, False))
        self.assertEqual(self.shown((A, 2), (B, 1), [A, B, C]), (False, False))

    def test_weavings_that_do_the_one_or_the_other(self):
        full = [A, A, A, B, B, B, C]
        self.assertEqual(self.shown((A, 1), (B, 1), full), (False, False))
        self.assertEqual(self.shown((A, 1), (A, 0), [A, B, C]), (False, False))
        self.assertEqual(self.shown((A, 1), (B, 0), [A, B, C]), (False, False))
        self.assertEqual(self.shown((B, 1), (A, 2), [A, A, A, B, C]), (False, False))

    def test_free(self):
        self.assertEqual(self.shown((B, 1), (A, 2), [A, A, A]), (False, True))
        self.assertEqual(self.shown((B, 1), (A, 2), [C, B, A, A, A]), (False, True))
        self.assertEqual(self.shown((A, 1), (A, 0), [A]), (False, True))
        self.assertEqual(self.shown((A, 0), (C, 0), [B, C]), (False, True))
        self.assertEqual(self.shown((C, 0), (B, 1), [A, A, B, B]), (False, True))

    def test_the_other_is_not_the_last(self):
        for weaving in [[], [A, A], [A, A, A, B], [A, A, A, C], [A, A, B, B]]:
            self.assertEqual(self.shown((B, 2), (A, 2), weaving), (False, False))
        self.assertEqual(self.shown((C, 0), (B, 1), [A, A, B, B, B]), (False, False))
        self.assertEqual(self.shown((C, 0), (B, 1), [A, A, B]), (False, False))

    def test_the_one_is_done(self):
        self.assertEqual(self.shown((B, 0), (A, 2), [B, A, A, A]), (False, False))
        self.assertEqual(self.shown((A, 0), (A, 2), [A, A, A]), (False, False))

    def test_no_weavings(self):
        for weaving in [[B, B], [A, B, C, C], [A, B, C, (3,)], [()], [(0, 0)], [(-1,)], [A, B, B, C]]:
            for one, other in itertools.permutations(every_deed(self.HOUSE), 2):
                self.assertEqual(self.shown(one, other, weaving), (False, False))

    def test_where_neither_can_ever_be_the_ones_hand_need_not_stand_at_it(self):
        house = house_of([(("await", 0, 1), ("work", 1)), (("work", 1), ("await", 0, 2))], ((0, ()), (1, ())))
        self.assertIs(shows_must(house, (A, 1), (B, 1), [B]), True)
        self.assertIs(shows_must(house, (A, 1), (B, 1), []), False)
        self.assertIs(shows_must(house, (B, 1), (A, 1), [B]), True)

    def test_any_weavings_are_looked_at_by_what_they_say(self):
        shown = {(True, False): 0, (False, True): 0, (False, False): 0}
        for house, stands, chance in small_houses(15, most=4):
            pick = lambda hands, turn: chance.draw.choice(hands)
            full = [woven(house, pick) for turn in range(3)]
            lists = [weaving[:cut] for weaving in full for cut in range(len(weaving) + 1)]
            lists += [weaving[:cut] + weaving[cut + 1:] for weaving in full for cut in range(len(weaving))]
            for one, other in pairs(house)[:60]:
                told = [must(house, one, other)[1]]
                seen = []
                for weaving in lists + told:
                    seen.append((shows_must(house, one, other, weaving), shows_free(house, one, other, weaving)))
                    self.assertEqual(seen[-1], (is_must_by_words(house, one, other, weaving),
                                                is_free_by_words(house, one, other, weaving)))
                    shown[seen[-1]] += 1
                # Never both, whatever the weavings.
                self.assertFalse(any(row[0] for row in seen) and any(row[1] for row in seen))
        self.assertGreater(min(shown.values()), 100)


class RefusedDeedsTest(unittest.TestCase):
    HOUSE = house_of([(("work", 1), ("begin", 1, ())), (("work", 1),), ()], ((0, ()), (2, ())))
    GOOD = [(A, 0), (A, 1), ((0, 0), 0)]
    NO_HANDS = [((2,), 0), ((), 0), ((-1,), 0), ((0, 1), 0), ((1, 0), 0), ((0, 0, 0), 0), ((9,), 9)]
    NO_DEEDS = [(A, -1), (A, 2), (A, 80), (B, 0), (B, -1), ((0, 0), 1), ((0, 0), -1)]

    def refused(self, error, one, other):
        self.assertRaises(error, must, self.HOUSE, one, other)
        for weaving in ([], [A], [A, A], [(9,)]):
            self.assertRaises(error, shows_must, self.HOUSE, one, other, weaving)
            self.assertRaises(error, shows_free, self.HOUSE, one, other, weaving)

    def test_no_hand(self):
        for wrong in self.NO_HANDS:
            for good in self.GOOD:
                self.refused(NoHand, wrong, good)
                self.refused(NoHand, good, wrong)
            self.refused(NoHand, wrong, wrong)

    def test_no_deed(self):
        for wrong in self.NO_DEEDS:
            for good in self.GOOD:
                self.refused(NoDeed, wrong, good)
                self.refused(NoDeed, good, wrong)
            self.refused(NoDeed, wrong, wrong)

    def test_both_the_same(self):
        for good in self.GOOD:
            self.refused(NoDeed, good, good)

    def test_no_hand_of_either_goes_ahead_of_no_deed(self):
        for wrong in self.NO_HANDS:
            for none in self.NO_DEEDS:
                self.refused(NoHand, wrong, none)
                self.refused(NoHand, none, wrong)

    def test_truths_are_no_whole_numbers(self):
        self.refused(NoHand, ((False,), 0), (A, 1))
        self.refused(NoDeed, (A, False), (A, 1))

    def test_deeds_of_hands_that_are_never_begun_are_there(self):
        house = house_of([(("await", 0, 1), ("begin", 1, ())), (("work", 1),)])
        self.assertEqual(must(house, (A, 0), ((0, 0), 0)), ("must", []))
        self.assertEqual(must(house, ((0, 0), 0), (A, 0)), ("must", []))


class TableTest(unittest.TestCase):
    def test_it_is_what_must_tells_of_each_two(self):
        for house, stands, chance in small_houses(40, most=4):
            told = table(house)
            self.assertEqual(sorted(told), every_deed(house))
            for other, ahead in told.items():
                self.assertIsInstance(ahead, list)
                wanted = [one for one in every_deed(house) if one != other and must(house, one, other)[0] == "must"]
                self.assertEqual(ahead, wanted)

    def test_deeds_that_are_done_at_the_end_are_in_an_order(self):
        for seed in range(60):
            house = Chance(seed).house(most=6)
            told = table(house)
            stand = played(house, end(house)[1])
            done = [deed for deed in told if has_done(stand, deed)]
            for deed in done:
                self.assertNotIn(deed, told[deed])
                for one in told[deed]:
                    self.assertIn(one, done)
                    self.assertLessEqual(set(told[one]), set(told[deed]))
            for one, other in itertools.combinations(done, 2):
                if one not in told[other] and other not in told[one]:
                    self.assertEqual(must(house, one, other)[0], "free")
                    self.assertEqual(must(house, other, one)[0], "free")

    def test_deeds_that_are_never_done_have_all_others_ahead(self):
        for seed in range(60):
            house = Chance(seed).house(most=6)
            told = table(house)
            stand = played(house, end(house)[1])
            for deed in told:
                if not has_done(stand, deed):
                    self.assertEqual(told[deed], [one for one in every_deed(house) if one != deed])

    def test_a_small_one(self):
        house = house_of([(("come", 0), ("go", 0)), (("say", "b"), ("come", 0), ("go", 0), ("say", "d"))],
                         ((0, (at(0),)), (1, (at(0),))))
        self.assertEqual(table(house), {
            (A, 0): [], (A, 1): [(A, 0), (B, 0), (B, 1)], (B, 0): [], (B, 1): [(B, 0)],
            (B, 2): [(A, 0), (B, 0), (B, 1)], (B, 3): [(A, 0), (B, 0), (B, 1), (B, 2)]})

    def test_lists_are_sorted_as_tuples_are(self):
        house = house_of([(("raise", 0, 1), ("begin", 2, ())), (("await", 0, 22),), (("raise", 0, 1),)],
                         ((0, ()),) * 11 + ((1, ()),))
        ahead = table(house)[((11,), 0)]
        self.assertEqual(len(ahead), 33)
        self.assertEqual(ahead, sorted(ahead))

    def test_no_deeds(self):
        self.assertEqual(table(house_of([()], ((0, ()), (0, ())))), {})

    def test_120_deeds_and_121(self):
        long = (("raise", 0, 1),) * 30
        self.assertEqual(len(table(house_of([long], ((0, ()),) * 4))), 120)
        self.assertRaises(TooMany, table, house_of([long, (("work", 1),)], ((0, ()),) * 4 + ((1, ()),)))

    def test_deeds_of_hands_that_are_never_begun_are_counted(self):
        long = (("work", 1),) * 59
        house = house_of([(("await", 0, 1), ("begin", 1, ())), long + (("begin", 2, ()),), long[:58]])
        self.assertEqual(sum(len(script) for script in every_hand(house).values()), 120)
        self.assertEqual(len(table(house)), 120)
        house = house_of([(("await", 0, 1), ("begin", 1, ())), long + (("begin", 2, ()),), long])
        self.assertRaises(TooMany, table, house)

    def test_scripts_that_nobody_is_called_to_are_not_counted(self):
        self.assertEqual(len(table(house_of([(("work", 1),), (("work", 1),) * 80, (("work", 1),) * 80]))), 1)


class ReachedTest(unittest.TestCase):
    def test_of_two_deeds_without_a_must_each_is_first_in_some_weaving(self):
        for house, stands, chance in small_houses(20, most=4):
            told = table(house)
            ends = max(stands, key=lambda stand: sum(stand.values()))
            done = [deed for deed in told if has_done(ends, deed)]
            for one, other in itertools.permutations(done, 2):
                if one not in told[other]:
                    self.assertTrue(any(has_done(stand, other) and not has_done(stand, one) for stand in stands))

    def test_the_second_telling_has_all_stands(self):
        house = house_of([(("work", 1), ("work", 1)), (("work", 1),)], ((0, ()), (1, ())))
        self.assertEqual(len(reached(house)), 6)


if __name__ == "__main__":
    unittest.main()
