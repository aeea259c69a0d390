import copy
import random
import unittest

from helper import (at, check_own, deeds_of, every_deed, every_hand, far_house, first_one, has_done, house_of, reached,
                    woven)
from meetwall.errors import NoHouse, NoWall
from meetwall.heard import heard, heights
from meetwall.houses import is_house
from meetwall.kinds import made
from meetwall.made import cost, is_plain
from meetwall.musts import must

A, B, C = (0,), (1,), (2,)


def plain(scripts, firsts=None, boxes=4):
    return house_of(scripts, firsts or [(number, ()) for number in range(len(scripts))], boxes=boxes, walls=0)


def drawn_plain(draw, scripts=4, most=4):
    """A plain house without walls: script i alone raises box i, and is called once at most if it does."""
    made_scripts = []
    callers = {number: draw.randrange(-2, number) for number in range(scripts)}
    for number in range(scripts):
        deeds = []
        for place in range(draw.randrange(most + 1)):
            deeds.append(draw.choice([("raise", number, draw.randrange(1, 3)), ("work", 1), ("say", "word"),
                                      ("await", draw.randrange(scripts), draw.randrange(1, 4)),
                                      ("await", draw.randrange(scripts), 1)]))
        for begun in [other for other in callers if callers[other] == number]:
            deeds.insert(draw.randrange(len(deeds) + 1), ("begin", begun, ()))
        made_scripts.append(tuple(deeds))
    firsts = [(number, ()) for number in range(scripts) if callers[number] < 0]
    draw.shuffle(firsts)
    return plain(made_scripts, firsts, boxes=scripts)


def ahead_of(house, stands):
    """By all stands: from each deed done at the end to those that must come ahead of it."""
    done = deeds_of(woven(house, first_one))
    return {other: [one for one in every_deed(house) if one != other
                    and all(has_done(stand, one) for stand in stands if has_done(stand, other))] for other in done}


def heard_by_words(house, ahead):
    firsts = [((number,), 0) for number in range(len(house[2]))]
    return {deed: sorted(first[0][0] for first in firsts if first == deed or first in ones)
            for deed, ones in ahead.items()}


def heights_by_words(house, ahead):
    scripts = every_hand(house)

    def height(deed):
        awaits = scripts[deed[0]][deed[1]][0] == "await"
        return int(awaits) + max((height(one) for one in ahead[deed] if one in ahead), default=0)

    return {deed: height(deed) for deed in ahead}


class HeardTest(unittest.TestCase):
    def test_an_await_hears_of_those_ahead_of_the_raise(self):
        house = plain([(("work", 1), ("raise", 0, 1), ("raise", 0, 1)), (("work", 1), ("await", 0, 2), ("say", "x"))])
        self.assertEqual(heard(house), {(A, 0): [0], (A, 1): [0], (A, 2): [0],
                                        (B, 0): [1], (B, 1): [0, 1], (B, 2): [0, 1]})
        self.assertEqual(heights(house), {(A, 0): 0, (A, 1): 0, (A, 2): 0, (B, 0): 0, (B, 1): 1, (B, 2): 1})

    def test_a_first_deed_that_awaits_hears_of_its_own_hand_too(self):
        house = plain([(("await", 1, 1),), (("raise", 1, 1),)])
        self.assertEqual(heard(house), {(A, 0): [0, 1], (B, 0): [1]})
        self.assertEqual(heights(house), {(A, 0): 1, (B, 0): 0})

    def test_the_raise_that_is_enough_and_none_behind_it(self):
        raiser = (("raise", 0, 2), ("await", 1, 1), ("raise", 0, 1))
        house = plain([raiser, (("raise", 1, 1),), (("await", 0, 2), ("await", 0, 3))])
        told = heard(house)
        self.assertEqual((told[(C, 0)], told[(C, 1)]), ([0, 2], [0, 1, 2]))
        self.assertEqual((heights(house)[(C, 0)], heights(house)[(C, 1)]), (1, 2))

    def test_a_box_of_ones_own(self):
        house = plain([(("raise", 0, 1), ("await", 0, 1), ("await", 0, 1), ("work", 1))])
        self.assertEqual(heard(house), {(A, place): [0] for place in range(4)})
        self.assertEqual(heights(house), {(A, 0): 0, (A, 1): 1, (A, 2): 2, (A, 3): 2})

    def test_begun_hands_have_heard_of_their_beginners(self):
        house = plain([(("work", 1), ("await", 2, 1), ("begin", 1, ())), (("work", 1), ("raise", 1, 1)),
                       (("raise", 2, 1), ("await", 1, 1))], ((0, ()), (2, ())))
        self.assertEqual(heard(house), {(A, 0): [0], (A, 1): [0, 1], (A, 2): [0, 1], ((0, 0), 0): [0, 1],
                                        ((0, 0), 1): [0, 1], (B, 0): [1], (B, 1): [0, 1]})
        self.assertEqual(heights(house), {(A, 0): 0, (A, 1): 1, (A, 2): 1, ((0, 0), 0): 1, ((0, 0), 1): 1, (B, 0): 0,
                                          (B, 1): 2})

    def test_the_numbers_are_those_of_the_firsts_not_of_the_scripts(self):
        house = plain([(("raise", 0, 1),), (("await", 0, 1),)], ((1, ()), (1, ()), (0, ())))
        self.assertEqual(heard(house), {(A, 0): [0, 2], (B, 0): [1, 2], (C, 0): [2]})

    def test_hands_without_deeds(self):
        self.assertEqual(heard(plain([()])), {})
        self.assertEqual(heights(plain([(), ()])), {})
        house = plain([(), (("begin", 2, ()), ("work", 1)), ()], ((0, ()), (1, ()), (0, ())))
        self.assertEqual(heard(house), {(B, 0): [1], (B, 1): [1]})

    def test_hands_that_are_left_waiting(self):
        house = plain([(("raise", 0, 1), ("await", 1, 1), ("raise", 0, 1)), (("await", 0, 1), ("await", 0, 2),
                       ("raise", 1, 1), ("begin", 2, ())), (("work", 1),)], ((0, ()), (1, ())))
        self.assertEqual(heard(house), {(A, 0): [0], (B, 0): [0, 1]})
        self.assertEqual(heights(house), {(A, 0): 0, (B, 0): 1})
        self.assertEqual(heard(plain([(("await", 0, 1),)])), {})

    def test_more_than_nine_hands_are_sorted_by_number(self):
        told = heard(made("own", 12, 1))
        self.assertEqual(told[(A, 13)], list(range(12)))
        self.assertEqual(told[((11,), 1)], [11])
        self.assertEqual(told[((11,), 3)], [0, 1, 11])

    def test_the_kinds_hear_of_all_ahead_of_each_go(self):
        for kind in ("own", "spread", "tree"):
            for n in (1, 2, 3, 5, 8, 16):
                house = made(kind, n, 2)
                told, high = heard(house), heights(house)
                for hand, script in every_hand(house).items():
                    for place, deed in enumerate(script):
                        if deed == ("say", "go"):
                            self.assertEqual(told[(hand, place)], list(range(n)))
                            self.assertGreaterEqual(2 ** high[(hand, place)], n)

    def test_drawn_houses_by_all_their_stands(self):
        draw = random.Random(20)
        most = {"heard": 0, "height": 0, "left": 0, "begun": 0}
        for turn in range(250):
            house = drawn_plain(draw)
            self.assertTrue(is_house(house) and is_plain(house))
            stands = reached(house, most=400)
            if stands is None:
                continue
            ahead = ahead_of(house, stands)
            told, high = heard(house), heights(house)
            self.assertEqual(told, heard_by_words(house, ahead), house)
            self.assertEqual(high, heights_by_words(house, ahead), house)
            for deed, numbers in told.items():
                self.assertLessEqual(len(numbers), 2 ** high[deed])
            most["heard"] = max([most["heard"]] + [len(numbers) for numbers in told.values()])
            most["height"] = max([most["height"]] + list(high.values()))
            most["left"] += len(told) < len(every_deed(house))
            most["begun"] += any(len(deed[0]) > 2 for deed in told)
        self.assertGreaterEqual(most["heard"], 3)
        self.assertGreaterEqual(most["height"], 3)
        self.assertGreater(min(most["left"], most["begun"]), 20)

    def test_drawn_houses_by_musts(self):
        draw = random.Random(21)
        for turn in range(40):
            house = drawn_plain(draw, scripts=6, most=5)
            done = deeds_of(woven(house, first_one))
            ahead = {other: [one for one in every_deed(house) if one != other
                             and must(house, one, other)[0] == "must"] for other in done}
            self.assertEqual(heard(house), heard_by_words(house, ahead))
            self.assertEqual(heights(house), heights_by_words(house, ahead))
            self.assertEqual(max(heights(house).values(), default=0), cost(house)[2])

    def test_a_house_at_the_bounds(self):
        scripts = []
        for number in range(20):
            step = (("await", (number - 1) % 20, 1), ("raise", number, 1)) if number else (("raise", 0, 1), ("work", 1))
            scripts.append(step + (("await", number, 1),) * 58)
        house = plain(scripts, boxes=20)
        self.assertEqual(sum(len(script) for script in scripts), 1200)
        told, high = heard(house), heights(house)
        self.assertEqual(len(told), 1200)
        self.assertEqual(told[((19,), 59)], list(range(20)))
        self.assertEqual((high[((19,), 1)], high[((19,), 59)]), (19, 77))


class RefusalsTest(unittest.TestCase):
    def refused(self, error, house):
        self.assertRaises(error, heard, house)
        self.assertRaises(error, heights, house)

    def test_walls(self):
        script = (("raise", 0, 1),)
        self.assertEqual(heard(house_of([script], walls=0)), {(A, 0): [0]})
        for walls in (1, 6):
            self.refused(NoWall, house_of([script], walls=walls))
        self.refused(NoWall, house_of([(("come", 0), ("go", 0))], ((0, (at(0),)),)))

    def test_houses_that_are_not_plain(self):
        self.refused(NoWall, made("shared", 2, 1))
        self.refused(NoWall, plain([(("raise", 0, 1),), (("raise", 0, 1),)]))
        # Also where one of the hands is never begun.
        never = (("raise", 0, 1), ("await", 1, 1), ("begin", 1, ()))
        self.refused(NoWall, plain([never, (("raise", 0, 1),)], ((0, ()),)))
        self.assertEqual(heard(made("shared", 1, 1))[(A, 2)], [0])
        self.assertEqual(heard(plain([(("raise", 0, 1),), (("raise", 0, 1),)], ((0, ()),))), {(A, 0): [0]})

    def test_no_house_goes_ahead(self):
        good = plain([(("raise", 0, 1),)])
        for house in [None, True, 7, "house", [], {}, (), list(good), good[:3], good + (0,), far_house(),
                      house_of([(("come", 0),)]), house_of([(("raise", 9, 1),)] * 2), house_of([()], walls=7)]:
            self.refused(NoHouse, house)


class OwnTest(unittest.TestCase):
    def test_what_is_told_is_the_askers_own(self):
        for house in [made("own", 4, 2), made("tree", 5, 1), drawn_plain(random.Random(3)), plain([()])]:
            was = copy.deepcopy(house)
            check_own(self, lambda: [heard(house), heights(house)])
            self.assertEqual(house, was)


if __name__ == "__main__":
    unittest.main()
