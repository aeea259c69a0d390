import copy
import itertools
import random
import unittest

from helper import check_own
from meetwall.counted import are_ever, can, ever, is_counted, is_left, is_row
from meetwall.errors import NoCount

LARGE = 10 ** 29
NO_MEETINGS = [None, True, 2, "2", [], {}, (), (2,), (2, (1, 1), 0), [2, (1, 1)], (2, [1, 1]), (0, (1, 1)), (6, (1, 1)),
               (-1, (1, 1)), (True, (1, 1)), ("2", (1, 1)), (2.0, (1, 1)), (None, (1, 1)), (LARGE, (1, 1)), (2, ()),
               (2, (1,) * 6), (2, (1, 5)), (2, (-1, 1)), (2, (1, LARGE)), (2, (1, True)), (2, (False, 1)),
               (2, (1, "1")), (2, (1, None)), (2, (1, (1,))), (2, "11"), (2, None), (2, {0: 1}), ((1, 1), 2)]


def groups(k, stand):
    return list(itertools.combinations([hand for hand, count in enumerate(stand) if count], k))


def less(stand, group):
    return tuple(count - (hand in group) for hand, count in enumerate(stand))


def stands_of(k, counts):
    """All counts that are come to, each with the length of the shortest row to it."""
    found = {counts: 0}
    waiting = [counts]
    for stand in waiting:
        for group in groups(k, stand):
            if less(stand, group) not in found:
                found[less(stand, group)] = found[stand] + 1
                waiting.append(less(stand, group))
    return found


def behind_row(meeting, row):
    stand = meeting[1]
    for group in row:
        if group not in groups(meeting[0], stand):
            return None
        stand = less(stand, group)
    return stand


def is_stuck(k, stand):
    return any(stand) and not groups(k, stand)


def every_meeting(most):
    """All with at most so many hands, and drawn ones with more."""
    draw = random.Random(22)
    for size in range(1, 6):
        every = list(itertools.product(range(5), repeat=size))
        for counts in every if size <= most else draw.sample(every, 80):
            for k in range(1, 6):
                yield k, counts


class IsCountedTest(unittest.TestCase):
    def test_counted_meetings(self):
        for k in range(1, 6):
            for counts in [(0,), (4,), (1, 1), (0, 4, 2), (4,) * 5, (0,) * 5]:
                self.assertIs(is_counted((k, counts)), True)

    def test_other_things(self):
        for thing in NO_MEETINGS:
            self.assertIs(is_counted(thing), False, thing)


class CanTest(unittest.TestCase):
    def test_a_row_that_lets_all_come_through(self):
        self.assertEqual(can((2, (1, 1))), ("can", [(0, 1)]))
        self.assertEqual(can((1, (0, 2))), ("can", [(1,), (1,)]))
        self.assertEqual(can((3, (2, 2, 2))), ("can", [(0, 1, 2), (0, 1, 2)]))
        word, row = can((2, (1, 1, 2)))
        self.assertEqual((word, sorted(row)), ("can", [(0, 2), (1, 2)]))

    def test_all_counts_are_0(self):
        for k, size in itertools.product(range(1, 6), range(1, 6)):
            self.assertEqual(can((k, (0,) * size)), ("can", []))

    def test_k_does_not_divide_the_sum(self):
        for meeting in [(2, (1,)), (2, (4, 1)), (3, (4, 4)), (5, (4, 4, 4, 4)), (4, (1, 1)), (2, (0, 3, 0))]:
            self.assertEqual(can(meeting), ("cannot", None))

    def test_one_that_is_too_great(self):
        self.assertEqual(can((2, (1, 3))), ("cannot", 1))
        self.assertEqual(can((2, (4, 1, 1))), ("cannot", 0))
        self.assertEqual(can((3, (1, 1, 4))), ("cannot", 2))
        self.assertEqual(can((2, (2, 0))), ("cannot", 0))

    def test_k_greater_than_the_number_of_hands(self):
        self.assertIn(can((5, (4, 4, 4, 3))), [("cannot", 0), ("cannot", 1), ("cannot", 2)])
        for k, counts in every_meeting(3):
            if k > len(counts) and any(counts):
                self.assertEqual(can((k, counts))[0], "cannot")

    def test_every_meeting(self):
        seen = {"can": 0, "cannot": 0, None: 0}
        for k, counts in every_meeting(4):
            told = can((k, counts))
            self.assertIsInstance(told, tuple)
            self.assertEqual(len(told), 2)
            some = any(not any(stand) for stand in stands_of(k, counts)) if sum(counts) <= 10 else None
            if some is not None:
                self.assertEqual(told[0] == "can", some, (k, counts))
            if told[0] == "can":
                self.assertIsInstance(told[1], list)
                self.assertEqual(behind_row((k, counts), told[1]), (0,) * len(counts))
                self.assertIs(is_row((k, counts), told[1]), True)
                seen["can"] += 1
                continue
            self.assertEqual(told[0], "cannot")
            if sum(counts) % k:
                self.assertIsNone(told[1])
                seen[None] += 1
            else:
                self.assertGreater(counts[told[1]] * k, sum(counts))
                seen["cannot"] += 1
        self.assertGreater(min(seen.values()), 100)


class EverTest(unittest.TestCase):
    def test_ever(self):
        self.assertEqual(ever((2, (0, 0))), ("ever", [(0, 0)]))
        self.assertEqual(ever((2, (1, 1))), ("ever", [(1, 1), (0, 0)]))
        word, stands = ever((1, (1, 2)))
        self.assertEqual((word, sorted(stands)), ("ever", [(a, b) for a in range(2) for b in range(3)]))
        word, stands = ever((2, (1, 1, 1, 1)))
        self.assertEqual((word, len(stands)), ("ever", 8))

    def test_left(self):
        self.assertEqual(ever((2, (1,))), ("left", []))
        self.assertEqual(ever((2, (1, 3))), ("left", [(0, 1)]))
        self.assertEqual(ever((5, (4, 4, 4, 4))), ("left", []))
        self.assertEqual(ever((2, (1, 1, 2))), ("left", [(0, 1)]))

    def test_of_the_fewest_meetings(self):
        self.assertEqual(len(ever((2, (3, 3, 3)))[1]), 3)
        self.assertEqual(len(ever((2, (1, 1, 1)))[1]), 1)
        self.assertEqual(len(ever((2, (2, 2, 2)))[1]), 2)

    def test_every_meeting(self):
        seen = {"ever": 0, "left": 0}
        for k, counts in every_meeting(3):
            told = ever((k, counts))
            found = stands_of(k, counts)
            left = [length for stand, length in found.items() if is_stuck(k, stand)]
            self.assertIsInstance(told, tuple)
            self.assertIsInstance(told[1], list)
            self.assertEqual((len(told), told[0]), (2, "left" if left else "ever"))
            seen[told[0]] += 1
            if left:
                self.assertEqual(len(told[1]), min(left))
                self.assertTrue(is_stuck(k, behind_row((k, counts), told[1])))
                self.assertIs(is_left((k, counts), told[1]), True)
                self.assertIs(is_row((k, counts), told[1]), False)
            else:
                self.assertEqual(sorted(told[1]), sorted(found))
                self.assertIs(are_ever((k, counts), told[1]), True)
        self.assertGreater(min(seen.values()), 50)

    def test_never_both(self):
        for k, counts in every_meeting(2):
            told = ever((k, counts))
            if told[0] == "left":
                self.assertIs(are_ever((k, counts), list(stands_of(k, counts))), False)
            else:
                self.assertEqual(can((k, counts))[0], "can")


class RowsTest(unittest.TestCase):
    def test_rows_that_let_all_come_through(self):
        meeting = (2, (1, 2, 1))
        for row in ([(0, 1), (1, 2)], [(1, 2), (0, 1)]):
            self.assertIs(is_row(meeting, row), True)
            self.assertIs(is_left(meeting, row), False)
        self.assertIs(is_row((2, (0, 0)), []), True)
        self.assertIs(is_left((2, (0, 0)), []), False)

    def test_full_rows_that_leave_some(self):
        meeting = (2, (1, 2, 1))
        self.assertIs(is_left(meeting, [(0, 2)]), True)
        self.assertIs(is_row(meeting, [(0, 2)]), False)
        self.assertIs(is_left((2, (0, 1)), []), True)
        # Not only those of the fewest meetings.
        self.assertEqual(len(ever((2, (1, 1, 1, 2, 2)))[1]), 3)
        self.assertIs(is_left((2, (1, 1, 1, 2, 2)), [(3, 4), (0, 3), (1, 4)]), True)

    def test_rows_that_are_not_full(self):
        meeting = (2, (1, 2, 1))
        for row in ([], [(0, 1)], [(1, 2)]):
            self.assertIs(is_row(meeting, row), False)
            self.assertIs(is_left(meeting, row), False)

    def test_lists_that_are_no_rows(self):
        meeting = (2, (1, 2, 1))
        good, left = [(0, 1), (1, 2)], [(0, 2)]
        self.assertTrue(is_row(meeting, good) and is_left(meeting, left))
        for bad in [(1, 0), (1, 1), (1,), (), (0, 1, 2), (1, 3), (3, 4), (-1, 1), (-2, -1), (-3, 1), (1, LARGE)]:
            for row in [[bad], [bad] + good, good + [bad], [(0, 1), bad], [bad, (0, 1)], [bad] + left, left + [bad]]:
                self.assertIs(is_row(meeting, row), False, row)
                self.assertIs(is_left(meeting, row), False, row)

    def test_a_hand_that_does_not_want_any_more(self):
        meeting = (2, (1, 2, 1))
        for row in [[(0, 1), (0, 1)], good_and((0, 1)), good_and((0, 2)), [(0, 2), (0, 1)], [(0, 2), (1, 2)]]:
            self.assertIs(is_row(meeting, row), False, row)
            self.assertIs(is_left(meeting, row), False, row)
        self.assertIs(is_row((1, (0, 1)), [(0,), (1,)]), False)

    def test_truths_and_other_things(self):
        for row in [None, (), ((0, 1),), [[0, 1]], [(False, True)], [(0, True)], [None], [0, 1], "01", {(0, 1): 1}]:
            self.assertIs(is_row((2, (1, 1)), row), False)
            self.assertIs(is_left((2, (1, 1, 1)), row), False)
        self.assertIs(is_left((2, (1, 1, 1)), [(0, 1)]), True)

    def test_drawn_rows(self):
        draw = random.Random(23)
        seen = {"row": 0, "left": 0, "none": 0}
        for turn in range(3000):
            k = draw.randrange(1, 4)
            counts = tuple(draw.randrange(3) for hand in range(draw.randrange(1, 5)))
            row = []
            stand = counts
            while groups(k, stand) and draw.random() < 0.95:
                row.append(draw.choice(groups(k, stand)))
                stand = less(stand, row[-1])
            if row and draw.random() < 0.2:
                place = draw.randrange(len(row))
                row[place] = tuple(draw.randrange(-1, 5) for hand in row[place])
            stand = behind_row((k, counts), row)
            comes_through = stand is not None and not any(stand)
            leaves = stand is not None and is_stuck(k, stand)
            self.assertIs(is_row((k, counts), row), comes_through)
            self.assertIs(is_left((k, counts), row), leaves)
            seen["row" if comes_through else "left" if leaves else "none"] += 1
        self.assertGreater(min(seen.values()), 100)


def good_and(group):
    return [(0, 1), (1, 2), group]


class AreEverTest(unittest.TestCase):
    def setUp(self):
        self.meeting = (2, (1, 1, 1, 1))
        self.stands = ever(self.meeting)[1]

    def asked(self, stands):
        return are_ever(self.meeting, stands)

    def test_in_any_order(self):
        self.assertIs(self.asked(self.stands[::-1]), True)
        self.assertIs(self.asked(sorted(self.stands)), True)

    def test_one_left_out(self):
        for stand in self.stands:
            self.assertIs(self.asked([other for other in self.stands if other != stand]), False)

    def test_one_twice(self):
        for stand in self.stands:
            self.assertIs(self.asked(self.stands + [stand]), False)

    def test_the_empty_list(self):
        self.assertIs(self.asked([]), False)
        self.assertIs(are_ever((1, (0,)), []), False)
        self.assertIs(are_ever((1, (0,)), [(0,)]), True)

    def test_tuples_of_another_length(self):
        for stand in [(), (0,), (0, 0, 0), (0,) * 5, (0,) * 6, (1, 1)]:
            self.assertIs(self.asked(self.stands + [stand]), False)
            self.assertIs(self.asked([stand]), False)

    def test_other_numbers(self):
        for number in (-1, 5, 6, LARGE, -LARGE):
            self.assertIs(are_ever((1, (0, 0)), [(0, 0), (0, number)]), False)
            self.assertIs(are_ever((1, (0, 0)), [(number, number), (0, 0)]), False)

    def test_those_that_are_not_come_to_may_be_there(self):
        self.assertIs(self.asked(self.stands + [(2, 2, 0, 0)]), True)
        self.assertIs(self.asked(self.stands + [(2, 2, 1, 1)]), False)
        self.assertIs(are_ever((1, (0,)), [(number,) for number in range(5)]), True)
        self.assertIs(are_ever((1, (0,)), [(0,), (2,)]), False)

    def test_some_left_and_too_few_that_want(self):
        self.assertIs(self.asked(self.stands + [(1, 0, 0, 0)]), False)
        self.assertIs(self.asked(self.stands + [(0, 0, 4, 0)]), False)
        self.assertIs(are_ever((2, (1, 1, 1)), [(1, 1, 1), (1, 0, 0), (0, 1, 0), (0, 0, 1)]), False)
        self.assertIs(are_ever((3, (1, 1)), [(1, 1)]), False)

    def test_truths_and_other_things(self):
        for stands in [None, (), tuple(self.stands), {stand: True for stand in self.stands}, "0",
                       [list(stand) for stand in self.stands], self.stands + [None], self.stands + [[]], [0]]:
            self.assertIs(self.asked(stands), False)
        self.assertIs(are_ever((2, (1, 1)), [(1, 1), (0, False)]), False)
        self.assertIs(are_ever((2, (1, 1)), [(True, 1), (0, 0)]), False)

    def test_all_lists_of_few_hands(self):
        every = list(itertools.product(range(3), repeat=2))
        told = {True: 0, False: 0}
        for k, first in itertools.product((1, 2, 3), every):
            for size in range(5):
                for stands in itertools.combinations(every, size):
                    closed = all(less(stand, group) in stands for stand in stands for group in groups(k, stand))
                    wanted = first in stands and closed and not any(is_stuck(k, stand) for stand in stands)
                    self.assertIs(are_ever((k, first), list(stands)), wanted, (k, first, stands))
                    told[wanted] += 1
        self.assertGreater(min(told.values()), 30)


class NoCountTest(unittest.TestCase):
    def test_each_of_the_five_refuses_what_is_none(self):
        for thing in NO_MEETINGS:
            self.assertRaises(NoCount, can, thing)
            self.assertRaises(NoCount, ever, thing)
            for papers in ([], [(0, 1)], [(1, 1), (0, 0)], [(-1,)]):
                self.assertRaises(NoCount, is_row, thing, papers)
                self.assertRaises(NoCount, is_left, thing, papers)
                self.assertRaises(NoCount, are_ever, thing, papers)


class OwnTest(unittest.TestCase):
    def test_what_is_told_is_the_askers_own(self):
        for meeting in [(2, (1, 1, 1, 1)), (2, (1, 2, 1)), (1, (0, 3)), (3, (4, 4, 4)), (2, (1,)), (4, (0, 0))]:
            was = copy.deepcopy(meeting)
            check_own(self, lambda: [can(meeting), ever(meeting)])
            self.assertEqual(meeting, was)

    def test_what_is_handed_in_stays_as_it_was(self):
        meeting = (2, (1, 1, 1, 1))
        handed = (meeting, can(meeting)[1], ever(meeting)[1], [(0, 2), (1, 1), (9,)])
        was = copy.deepcopy(handed)
        for turn in range(2):
            self.assertIs(is_row(meeting, handed[1]), True)
            self.assertIs(is_left(meeting, handed[1]), False)
            self.assertIs(are_ever(meeting, handed[2]), True)
            self.assertIs(is_row(meeting, handed[3]), False)
            self.assertIs(is_left(meeting, handed[3]), False)
            self.assertIs(are_ever(meeting, handed[3]), False)
            self.assertEqual(handed, was)

    def test_the_greatest_meetings(self):
        for k in range(1, 6):
            told = ever((k, (4,) * 5))
            self.assertEqual(told[0], "ever" if k in (1, 5) else "left")
            self.assertEqual(can((k, (4,) * 5))[0], "can" if 20 % k == 0 else "cannot")
        self.assertEqual(len(ever((1, (4,) * 5))[1]), 3125)
        self.assertIs(are_ever((1, (4,) * 5), ever((1, (4,) * 5))[1]), True)


if __name__ == "__main__":
    unittest.main()
