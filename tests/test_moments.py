import unittest

from helper import (FLOWING, WORDS, Chance, at, dued, every_deed, every_hand, going, house_of, is_chain_by_words,
                    is_timed_by_words, played_by, ticked)
from meetwall.errors import NoDeed, NoHand
from meetwall.moments import chain, is_chain, is_timed, moment, timed
from meetwall.weavings import end

A, B, C = (0,), (1,), (2,)
# A works 5 and raises, B works 2, awaits it and works 4; C begins one at 3 that awaits it, too.
RAISED = house_of([(("work", 5), ("raise", 0, 1)), (("work", 2), ("await", 0, 1), ("work", 4)),
                   (("work", 3), ("begin", 3, ()), ("work", 9)), (("await", 0, 1), ("work", 1))],
                  ((0, ()), (1, ()), (2, ())))


def drawn(count, most=9, firsts=5):
    for seed in range(count):
        chance = Chance(seed, FLOWING if seed % 4 else WORDS)
        yield chance.house(most=most, firsts=firsts), chance


def moments(house):
    return {row[:2]: row[2] for row in timed(house)}


class TimedTest(unittest.TestCase):
    def check(self, house):
        rows = timed(house)
        self.assertIsInstance(rows, list)
        self.assertTrue(all(isinstance(row, tuple) and len(row) == 3 for row in rows))
        self.assertTrue(is_timed_by_words(house, rows), (house, rows))
        self.assertIs(is_timed(house, rows), True)
        return {row[:2]: row[2] for row in rows}

    def test_drawn_houses_tick_by_tick(self):
        for house, chance in drawn(200):
            told = self.check(house)
            self.assertEqual(told, {row[:2]: row[2] for row in ticked(house)})
            for deed in every_deed(house):
                self.assertEqual(moment(house, deed), told.get(deed))

    def test_other_orders_have_the_same_moments(self):
        orders = 0
        for house, chance in drawn(100):
            told = moments(house)
            for turn in range(4):
                rows = ticked(house, chance.draw)
                self.assertIs(is_timed(house, rows), True)
                self.assertEqual({row[:2]: row[2] for row in rows}, told)
                orders += rows != timed(house)
        self.assertGreater(orders, 100)

    def test_no_weaving_does_any_deed_earlier(self):
        late = 0
        for house, chance in drawn(100):
            told = moments(house)
            rows = ticked(house, chance.draw, lazy=True)
            self.assertEqual(sorted(told), sorted(row[:2] for row in rows))
            for row in rows:
                self.assertGreaterEqual(row[2], told[row[:2]])
                late += row[2] > told[row[:2]]
        self.assertGreater(late, 100)

    def test_raises_and_awaits(self):
        told = self.check(RAISED)
        self.assertEqual(told, {(A, 0): 5, (A, 1): 5, (B, 0): 2, (B, 1): 5, (B, 2): 9, (C, 0): 3, (C, 1): 3,
                                (C, 2): 12, ((2, 0), 0): 5, ((2, 0), 1): 6})

    def test_a_box_that_is_ready_before_its_hand_is_there(self):
        house = house_of([(("work", 7), ("begin", 2, ())), (("work", 2), ("raise", 0, 1), ("work", 9)),
                          (("await", 0, 1), ("work", 1))], ((0, ()), (1, ())))
        told = self.check(house)
        self.assertEqual([told[((0, 0), 0)], told[((0, 0), 1)]], [7, 8])

    def test_a_wall_that_is_ready_before_its_hand_is_there(self):
        house = house_of([(("come", 0), ("work", 7), ("begin", 2, (at(0, "go"),)), ("work", 1)),
                          (("work", 2), ("come", 0), ("work", 50)), (("go", 0),)],
                         ((0, (at(0),)), (1, (at(0, "come"),))))
        self.assertEqual(self.check(house)[((0, 0), 0)], 7)
        house = house_of([(("come", 0), ("work", 1), ("begin", 2, (at(0, "go"),)), ("work", 1)),
                          (("work", 2), ("come", 0), ("work", 50)), (("go", 0),)],
                         ((0, (at(0),)), (1, (at(0, "come"),))))
        self.assertEqual(self.check(house)[((0, 0), 0)], 2)

    def test_a_begun_hand_begins_at_the_moment_of_its_begin(self):
        house = house_of([(("work", 4), ("begin", 1, ()), ("work", 100)),
                          (("say", "on"), ("work", 2), ("begin", 2, ())), (("work", 3), ("work", 0))])
        told = self.check(house)
        self.assertEqual([told[((0, 0), place)] for place in range(3)], [4, 6, 6])
        self.assertEqual([told[((0, 0, 0), place)] for place in range(2)], [9, 9])
        self.assertEqual(told[(A, 2)], 104)

    def test_works_of_nothing(self):
        house = house_of([(("work", 0), ("work", 0), ("raise", 0, 1)), (("await", 0, 1), ("work", 0))],
                         ((0, ()), (1, ())))
        self.assertEqual(set(self.check(house).values()), {0})

    def test_the_most_that_works_take(self):
        self.assertEqual(moment(house_of([(("work", 999),) * 80]), (A, 79)), 999 * 80)

    def test_meetings(self):
        house = house_of([(("work", 3), ("come", 0), ("go", 0), ("work", 1), ("come", 0), ("go", 0)),
                          (("work", 1), ("come", 0), ("work", 5), ("come", 0), ("go", 0), ("go", 0))],
                         ((0, (at(0),)), (1, (at(0),))))
        told = self.check(house)
        self.assertEqual([told[(A, place)] for place in range(6)], [3, 3, 3, 4, 4, 6])
        self.assertEqual([told[(B, place)] for place in range(6)], [1, 1, 6, 6, 6, 6])

    def test_by_a_leave_and_by_a_last_deed(self):
        goer = (("go", 0), ("go", 0))
        for last in [("leave", 0), ("work", 0), ("say", "bye"), ("raise", 0, 1), ("begin", 2, ())]:
            house = house_of([(("work", 1), ("come", 0), ("work", 4), last), goer, ()],
                             ((0, (at(0, "come"),)), (1, (at(0, "go"),))))
            told = self.check(house)
            self.assertEqual([told[(B, 0)], told[(B, 1)]], [1, 5], last)

    def test_a_wall_at_which_nobody_is_waited_for(self):
        house = house_of([(("work", 2), ("go", 0)), ()], ((0, (at(0, "go"),)), (1, (at(0),))))
        self.assertEqual(self.check(house), {(A, 0): 2, (A, 1): 2})

    def test_what_is_never_done_has_no_rows(self):
        house = house_of([(("work", 3), ("await", 0, 1), ("work", 1)), (("work", 2),)], ((0, ()), (1, ())))
        self.assertEqual(timed(house), [(B, 0, 2), (A, 0, 3)])
        self.assertEqual(timed(house_of([()])), [])
        self.assertIs(is_timed(house_of([()]), []), True)


class IsTimedTest(unittest.TestCase):
    def test_one_moment_one_more_or_one_less(self):
        for house, chance in drawn(60):
            rows = timed(house)
            for place, (hand, number, now) in enumerate(rows):
                for other in (now - 1, now + 1):
                    changed = rows[:place] + [(hand, number, other)] + rows[place + 1:]
                    self.assertIs(is_timed(house, changed), False, (house, changed))

    def test_all_moments_later_from_one_on(self):
        rows = timed(RAISED)
        for place in range(len(rows)):
            later = rows[:place] + [(hand, number, now + 1) for hand, number, now in rows[place:]]
            self.assertIs(is_timed(RAISED, later), False)

    def test_two_rows_exchanged(self):
        told = {True: 0, False: 0}
        for house, chance in drawn(60):
            rows = timed(house)
            for place in range(len(rows) - 1):
                changed = rows[:place] + [rows[place + 1], rows[place]] + rows[place + 2:]
                wanted = is_timed_by_words(house, changed)
                self.assertIs(is_timed(house, changed), wanted, (house, changed))
                told[wanted] += 1
        self.assertGreater(min(told.values()), 20)

    def test_one_left_out_or_twice(self):
        for house, chance in drawn(40):
            rows = timed(house)
            for place in range(len(rows)):
                self.assertIs(is_timed(house, rows[:place] + rows[place + 1:]), False)
                self.assertIs(is_timed(house, rows[:place] + rows[place:place + 1] + rows[place:]), False)
            self.assertIs(is_timed(house, rows), True)

    def test_no_whole_weaving(self):
        rows = timed(RAISED)
        for cut in range(len(rows)):
            self.assertIs(is_timed(RAISED, rows[:cut]), False)
        self.assertIs(is_timed(RAISED, rows + [(A, 2, 12)]), False)
        self.assertIs(is_timed(RAISED, rows + [((9,), 0, 12)]), False)

    def test_a_weaving_with_its_moments_whose_moments_fall(self):
        house = house_of([(("work", 1), ("work", 1)), (("work", 1),)], ((0, ()), (1, ())))
        self.assertIs(is_timed(house, [(A, 0, 1), (A, 1, 2), (B, 0, 1)]), False)
        self.assertIs(is_timed(house, [(A, 0, 1), (B, 0, 1), (A, 1, 2)]), True)
        self.assertIs(is_timed(house, [(B, 0, 1), (A, 0, 1), (A, 1, 2)]), True)

    def test_orders_of_one_moment_in_which_an_await_is_not_yet_let(self):
        house = house_of([(("raise", 0, 1),), (("await", 0, 1),)], ((0, ()), (1, ())))
        self.assertIs(is_timed(house, [(A, 0, 0), (B, 0, 0)]), True)
        self.assertIs(is_timed(house, [(B, 0, 0), (A, 0, 0)]), False)

    def test_other_numbers(self):
        rows = timed(RAISED)
        for place, (hand, number, now) in enumerate(rows):
            for other in (number - 1, number + 1):
                self.assertIs(is_timed(RAISED, rows[:place] + [(hand, other, now)] + rows[place + 1:]), False)

    def test_other_hands(self):
        rows = timed(RAISED)
        for place, (hand, number, now) in enumerate(rows):
            for other in [A, B, C, (2, 0), (3,), (), (0, 0)]:
                if other != hand:
                    self.assertIs(is_timed(RAISED, rows[:place] + [(other, number, now)] + rows[place + 1:]), False)

    def test_truths_and_other_things(self):
        house = house_of([(("work", 0), ("work", 1))])
        self.assertIs(is_timed(house, [(A, 0, 0), (A, 1, 1)]), True)
        for rows in [[(A, False, 0), (A, 1, 1)], [(A, 0, 0), (A, 1, True)], [((False,), 0, 0), (A, 1, 1)],
                     [(A, 0), (A, 1)], [(A, 0, 0, 0), (A, 1, 1, 1)], [[A, 0, 0], [A, 1, 1]], [None, None], None,
                     ((A, 0, 0), (A, 1, 1))]:
            self.assertIs(is_timed(house, rows), False)


class MomentTest(unittest.TestCase):
    HOUSE = house_of([(("work", 1), ("begin", 1, ())), (("work", 1), ("await", 0, 1), ("begin", 2, ())),
                      (("work", 1),)])

    def test_never(self):
        self.assertEqual([moment(self.HOUSE, (A, 0)), moment(self.HOUSE, (A, 1))], [1, 1])
        self.assertEqual(moment(self.HOUSE, ((0, 0), 0)), 2)
        for deed in [((0, 0), 1), ((0, 0), 2), ((0, 0, 0), 0)]:
            self.assertIsNone(moment(self.HOUSE, deed))
            self.assertIsNone(chain(self.HOUSE, deed))

    def test_refusals(self):
        for asked in (moment, chain):
            for hand in [(1,), (), (-1,), (0, 1), (0, 0, 1), (0, 0, 0, 0)]:
                for number in (-1, 0, 5):
                    self.assertRaises(NoHand, asked, self.HOUSE, (hand, number))
            for deed in [(A, -1), (A, 2), (A, 99), ((0, 0), 3), ((0, 0, 0), 1), ((0, 0, 0), -1)]:
                self.assertRaises(NoDeed, asked, self.HOUSE, deed)
            self.assertRaises(NoHand, asked, self.HOUSE, ((False,), 0))
            self.assertRaises(NoDeed, asked, self.HOUSE, (A, False))


class ChainTest(unittest.TestCase):
    def check(self, house, deed):
        told = chain(house, deed)
        self.assertIsInstance(told, list)
        self.assertEqual(told[-1], deed)
        whats = [every_hand(house)[hand][number] for hand, number in told]
        self.assertEqual(sum(what[1] for what in whats if what[0] == "work"), moment(house, deed))
        self.assertTrue(is_chain_by_words(house, timed(house), told), (house, told))
        self.assertIs(is_chain(house, timed(house), told), True)
        return told

    def test_drawn_houses(self):
        leaps = 0
        for house, chance in drawn(120):
            told = moments(house)
            for deed in every_deed(house):
                if deed in told:
                    leaps += len(set(hand[0] for hand, number in self.check(house, deed))) > 1
                else:
                    self.assertIsNone(chain(house, deed))
        self.assertGreater(leaps, 30)

    def test_chains_that_are_the_only_ones(self):
        self.assertEqual(self.check(RAISED, (B, 2)), [(A, 0), (A, 1), (B, 1), (B, 2)])
        self.assertEqual(self.check(RAISED, ((2, 0), 1)), [(A, 0), (A, 1), ((2, 0), 0), ((2, 0), 1)])
        self.assertEqual(self.check(RAISED, (C, 2)), [(C, 0), (C, 1), (C, 2)])
        self.assertEqual(self.check(RAISED, (B, 0)), [(B, 0)])

    def test_a_chain_through_a_begin(self):
        house = house_of([(("work", 4), ("begin", 1, ()), ("work", 1)), (("work", 2),)])
        self.assertEqual(self.check(house, ((0, 0), 0)), [(A, 0), (A, 1), ((0, 0), 0)])


class IsChainTest(unittest.TestCase):
    def yes(self, house, deeds):
        self.assertTrue(is_chain_by_words(house, timed(house), deeds))
        self.assertIs(is_chain(house, timed(house), deeds), True, deeds)

    def no(self, house, deeds):
        self.assertFalse(is_chain_by_words(house, timed(house), deeds))
        self.assertIs(is_chain(house, timed(house), deeds), False, deeds)

    def test_the_next_deed_of_the_same_hand(self):
        house = house_of([(("work", 4), ("say", "on"), ("work", 1), ("work", 0))])
        self.yes(house, [(A, 0), (A, 1), (A, 2), (A, 3)])
        self.yes(house, [(A, 0)])
        for deeds in [[(A, 0), (A, 2)], [(A, 1), (A, 2)], [(A, 1)], [(A, 0), (A, 0)], [(A, 1), (A, 0)], [],
                      [(A, 0), (A, 1), (A, 2), (A, 3), (A, 4)], [(A, 0), (A, 1), (A, 3)], [(A, -1), (A, 0)]]:
            self.no(house, deeds)

    def test_the_first_deed_of_a_begun_hand(self):
        house = house_of([(("work", 4), ("begin", 1, ()), ("begin", 1, ()), ("work", 1)), (("work", 2), ("work", 3))])
        self.yes(house, [(A, 0), (A, 1), ((0, 0), 0), ((0, 0), 1)])
        self.yes(house, [(A, 0), (A, 1), (A, 2), ((0, 1), 0)])
        for deeds in [[(A, 0), (A, 1), ((0, 1), 0)], [(A, 0), (A, 1), (A, 2), ((0, 0), 0)], [((0, 0), 0)],
                      [(A, 0), ((0, 0), 0)], [(A, 0), (A, 1), ((0, 0), 1)]]:
            self.no(house, deeds)

    def test_by_a_raise(self):
        house = house_of([(("work", 2), ("raise", 0, 1), ("work", 1), ("raise", 0, 1), ("work", 1), ("raise", 0, 1)),
                          (("work", 1), ("await", 0, 2), ("say", "on"))], ((0, ()), (1, ())))
        self.yes(house, [(A, 0), (A, 1), (A, 2), (A, 3), (B, 1)])
        self.yes(house, [(A, 0), (A, 1), (A, 2), (A, 3), (B, 1), (B, 2)])
        raiser = [(A, place) for place in range(6)]
        for deeds in [[(B, 0), (B, 1)], raiser[:2] + [(B, 1)], raiser + [(B, 1)], raiser[:4] + [(B, 2)],
                      [(A, 3), (B, 1)], raiser[:3] + [(B, 1)]]:
            self.no(house, deeds)

    def test_by_a_raise_of_another_box(self):
        house = house_of([(("raise", 1, 1), ("raise", 0, 1)), (("await", 0, 1),)], ((0, ()), (1, ())))
        self.yes(house, [(A, 0), (A, 1), (B, 0)])
        self.no(house, [(A, 0), (B, 0)])
        self.yes(house, [(B, 0)])

    def test_by_a_come(self):
        house = house_of([(("work", 3), ("come", 0), ("work", 1)), (("come", 0), ("go", 0), ("say", "on"))],
                         ((0, (at(0, "come"),)), (1, (at(0),))))
        self.yes(house, [(A, 0), (A, 1), (B, 1), (B, 2)])
        for deeds in [[(B, 0), (B, 1)], [(A, 0), (A, 1), (B, 2)], [(A, 0), (B, 1)], [(A, 0), (A, 1), (A, 2), (B, 1)],
                      [(A, 0), (A, 1), (B, 0)]]:
            self.no(house, deeds)

    def test_by_a_leave(self):
        house = house_of([(("work", 3), ("leave", 0), ("work", 1)), (("come", 0), ("go", 0))],
                         ((0, (at(0, "come"),)), (1, (at(0),))))
        self.yes(house, [(A, 0), (A, 1), (B, 1)])
        self.no(house, [(A, 0), (A, 1), (A, 2), (B, 1)])
        self.no(house, [(A, 0), (B, 1)])

    def test_by_the_last_deed_of_a_hand_that_has_the_wall(self):
        for last in [("work", 3), ("say", "bye"), ("raise", 0, 1), ("begin", 2, ()), ("go", 1), ("come", 0),
                     ("leave", 1)]:
            house = house_of([(("work", 3), last), (("come", 0), ("go", 0)), ()],
                             ((0, (at(0, "come"), at(1, "go"))), (1, (at(0),))))
            self.yes(house, [(A, 0), (A, 1), (B, 1)])
            self.no(house, [(A, 0), (B, 1)])
            self.no(house, [(B, 0), (B, 1)])

    def test_a_last_deed_of_a_hand_that_left_the_wall(self):
        house = house_of([(("work", 3), ("leave", 0), ("say", "bye")), (("come", 0), ("go", 0))],
                         ((0, (at(0, "come"),)), (1, (at(0),))))
        self.yes(house, [(A, 0), (A, 1), (B, 1)])
        self.no(house, [(A, 0), (A, 1), (A, 2), (B, 1)])

    def test_what_lets_it_be_done_hangs_on_the_order_of_the_rows(self):
        house = house_of([(("raise", 0, 1),), (("await", 0, 1),)], ((0, ()), (0, ()), (1, ())))
        by_a = [(A, 0, 0), (B, 0, 0), (C, 0, 0)]
        by_b = [(B, 0, 0), (A, 0, 0), (C, 0, 0)]
        self.assertEqual([is_timed(house, by_a), is_timed(house, by_b)], [True, True])
        for rows, hand, wanted in [(by_a, A, True), (by_b, A, False), (by_a, B, False), (by_b, B, True)]:
            self.assertIs(is_chain(house, rows, [(hand, 0), (C, 0)]), wanted)

    def test_a_chain_that_takes_less_than_the_moment(self):
        house = house_of([(("work", 3), ("raise", 0, 1)), (("work", 5), ("await", 0, 1))], ((0, ()), (1, ())))
        self.yes(house, [(B, 0), (B, 1)])
        self.no(house, [(A, 0), (A, 1), (B, 1)])

    def test_deeds_that_are_never_done_or_can_never_be(self):
        house = house_of([(("work", 3), ("await", 0, 1), ("work", 0))])
        self.no(house, [(A, 0), (A, 1)])
        self.no(house, [(A, 0), (A, 1), (A, 2)])
        self.no(house, [((9,), 0)])
        self.no(house, [(A, 0), ((0, 0), 0)])
        self.no(house, [(A, 9)])

    def test_rows_that_are_no_timed_weaving(self):
        told = chain(RAISED, (B, 2))
        rows = timed(RAISED)
        self.assertIs(is_chain(RAISED, rows, told), True)
        for wrong in [[], rows[:-1], rows[1:], rows + rows[-1:], rows[::-1], rows[:-1] + [rows[-1][:2] + (13,)],
                      [row[:2] + (row[2] + 1,) for row in rows]]:
            self.assertIs(is_chain(RAISED, wrong, told), False)

    def test_truths_and_other_things(self):
        rows = timed(RAISED)
        self.assertIs(is_chain(RAISED, rows, [(A, 0)]), True)
        for deeds in [[((False,), 0)], [(A, False)], [A], [(A, 0, 5)], [None], None, ((A, 0),)]:
            self.assertIs(is_chain(RAISED, rows, deeds), False)

    def test_drawn_lists(self):
        told = {True: 0, False: 0}
        for house, chance in drawn(60):
            rows = ticked(house, chance.draw)
            names = [row[:2] for row in rows]
            for deed in names:
                by_words = chain(house, deed)
                cut = chance.draw.randrange(len(by_words))
                for deeds in [by_words, by_words[cut:], by_words[:cut], by_words[:cut] + by_words[cut + 1:],
                              by_words[:cut] + [chance.draw.choice(names)] + by_words[cut:]]:
                    wanted = is_chain_by_words(house, rows, deeds)
                    self.assertIs(is_chain(house, rows, deeds), wanted)
                    told[wanted] += 1
        self.assertGreater(min(told.values()), 100)


class WordsTest(unittest.TestCase):
    def test_the_rows_are_the_deeds_of_a_full_weaving(self):
        for house, chance in drawn(60):
            weaving = [row[0] for row in timed(house)]
            self.assertEqual(going(played_by(house, weaving)), [])
            self.assertEqual(len(weaving), len(end(house)[1]))
            self.assertEqual([row[2] for row in timed(house)], dued(house, weaving))


if __name__ == "__main__":
    unittest.main()
