import copy
import random
import unittest

from helper import NO_LOOSE, drawn_loose, loose_behind, loose_may, loose_stands
from meetwall.errors import NoDeed, NoHouse
from meetwall.loose import behind_loose, first_loose, is_loose, may_loose

LARGE = 10 ** 29
PUT = ("put", 0, 0)


class IsLooseTest(unittest.TestCase):
    def asked(self, *deeds, boxes=2):
        told = is_loose((boxes, (tuple(deeds),)))
        self.assertIsInstance(told, bool)
        # Whichever script it stands in.
        self.assertIs(is_loose((boxes, ((), tuple(deeds), (PUT,)))), told)
        return told

    def test_boxes(self):
        for boxes in range(7):
            self.assertIs(is_loose((boxes, ((),))), True)
        for boxes in (-1, 7, 8, LARGE, -LARGE, True, False, None, "1", 1.0, (1,)):
            self.assertIs(is_loose((boxes, ((),))), False)

    def test_scripts(self):
        for many in range(1, 5):
            self.assertIs(is_loose((1, ((PUT,),) * many)), True)
        for scripts in [(), ((),) * 5, [()], [], None, "", {}, ((), []), ((), None), ((), PUT), (((PUT,),),), ("",)]:
            self.assertIs(is_loose((1, scripts)), False, scripts)

    def test_thirty_deeds_and_thirty_one(self):
        self.assertIs(self.asked(*[PUT] * 30), True)
        self.assertIs(self.asked(*[PUT] * 31), False)

    def test_other_things(self):
        for thing in NO_LOOSE:
            self.assertIs(is_loose(thing), False, thing)

    def test_boxes_that_are_there(self):
        for word, rest in [("put", (1,)), ("raise", (1,)), ("same", (1,)), ("skip", (1, 1))]:
            for box in (0, 1):
                self.assertIs(self.asked((word, box) + rest, PUT), True)
            for box in (2, 6, -1, LARGE, True, None, "0", (0,)):
                self.assertIs(self.asked((word, box) + rest, PUT), False)
            self.assertIs(is_loose((0, (((word, 0) + rest, ("say", "x")),))), False)
            self.assertIs(is_loose((6, (((word, 5) + rest, ("say", "x")),))), True)

    def test_numbers(self):
        for word, rest in [("put", ()), ("same", ()), ("skip", (1,))]:
            for number in range(10):
                self.assertIs(self.asked((word, 0, number) + rest, PUT), True)
        for word, rest in [("put", ()), ("same", ()), ("skip", (1,)), ("raise", ())]:
            for number in (-1, 10, 11, LARGE, -LARGE, True, False, None, "1", 1.0, (1,), [1]):
                self.assertIs(self.asked((word, 0, number) + rest, PUT), False, (word, number))

    def test_raises(self):
        for number in range(1, 10):
            self.assertIs(self.asked(("raise", 0, number)), True)
        self.assertIs(self.asked(("raise", 0, 0)), False)

    def test_skips(self):
        for behind in range(5):
            for many in (-1, 0, 1, 2, 3, 4, 5, 6, LARGE):
                deeds = [PUT, ("skip", 1, 3, many)] + [PUT] * behind
                self.assertIs(self.asked(*deeds), 1 <= many <= behind, deeds)
        for many in (True, None, "1", (1,)):
            self.assertIs(self.asked(("skip", 0, 0, many), PUT, PUT), False)
        self.assertIs(self.asked(("skip", 0, 0, 29), *[PUT] * 29), True)

    def test_says(self):
        for word in ("a", "z", "come", "abcdefgh"):
            self.assertIs(self.asked(("say", word)), True)
        for word in ("", "abcdefghi", "A", "aB", "a b", " a", "a1", "a-", "a_", "\u00e4", "\u0431", "a\n", None, 1,
                     ["a"], ("a",), b"a"):
            self.assertIs(self.asked(("say", word)), False, word)

    def test_deeds_too_short_or_too_long(self):
        for deed in [("put", 0, 1), ("raise", 0, 1), ("same", 0, 1), ("skip", 0, 1, 1), ("say", "a")]:
            self.assertIs(self.asked(deed, PUT), True)
            for other in [deed[:-1], deed[:1], deed + (1,), deed + (0,), deed + deed, (), list(deed), deed[0],
                          deed[1:]]:
                self.assertIs(self.asked(other, PUT), False, other)

    def test_other_words(self):
        for word in ("await", "come", "go", "leave", "begin", "work", "", "Put", "put ", None, 0, ["put"], ("put",)):
            for rest in [(0,), (0, 1), (0, 1, 1), ("a",)]:
                self.assertIs(self.asked((word,) + rest, PUT), False)


class StandsTest(unittest.TestCase):
    def test_the_first_stand(self):
        self.assertEqual(first_loose((0, ((),))), ((0,), ()))
        self.assertEqual(first_loose((3, ((PUT,), (), (PUT,), ()))), ((0, 0, 0, 0), (0, 0, 0)))
        self.assertEqual(first_loose((6, ((PUT,),))), ((0,), (0,) * 6))

    def test_put(self):
        house = (2, ((("put", 1, 7), ("put", 1, 0)), ()))
        self.assertEqual(behind_loose(house, ((0, 0), (4, 5)), 0), ((1, 0), (4, 7)))
        self.assertEqual(behind_loose(house, ((1, 0), (4, 7)), 0), ((2, 0), (4, 0)))

    def test_raise(self):
        for number in range(10):
            for k in range(1, 10):
                house = (2, ((), (("raise", 0, k),)))
                self.assertEqual(behind_loose(house, ((0, 0), (number, 3)), 1), ((0, 1), ((number + k) % 10, 3)))
        self.assertEqual(behind_loose((1, ((("raise", 0, 1),),)), ((0,), (9,)), 0), ((1,), (0,)))
        self.assertEqual(behind_loose((1, ((("raise", 0, 9),),)), ((0,), (9,)), 0), ((1,), (8,)))

    def test_same(self):
        house = (2, ((("same", 1, 3),), (("same", 0, 0),)))
        for number in range(10):
            stand = ((0, 0), (number, number))
            wanted = ([0] if number == 3 else []) + ([1] if number == 0 else [])
            self.assertEqual(may_loose(house, stand), wanted)
        self.assertEqual(behind_loose(house, ((0, 0), (1, 3)), 0), ((1, 0), (1, 3)))
        self.assertRaises(NoDeed, behind_loose, house, ((0, 0), (3, 4)), 0)
        self.assertRaises(NoDeed, behind_loose, house, ((0, 0), (3, 2)), 0)
        self.assertRaises(NoDeed, behind_loose, house, ((0, 0), (1, 3)), 1)

    def test_skip(self):
        house = (1, ((("skip", 0, 4, 2), PUT, PUT, PUT),))
        for number in range(10):
            self.assertEqual(may_loose(house, ((0,), (number,))), [0])
            wanted = ((3,), (4,)) if number == 4 else ((1,), (number,))
            self.assertEqual(behind_loose(house, ((0,), (number,)), 0), wanted)
        self.assertEqual(behind_loose((1, ((("skip", 0, 0, 3), PUT, PUT, PUT),)), ((0,), (0,)), 0), ((4,), (0,)))

    def test_say(self):
        self.assertEqual(behind_loose((1, ((("say", "a"),),)), ((0,), (5,)), 0), ((1,), (5,)))

    def test_may_go_on(self):
        house = (1, ((PUT,), (("same", 0, 1),), (), (PUT, PUT)))
        self.assertEqual(may_loose(house, first_loose(house)), [0, 3])
        self.assertEqual(may_loose(house, ((1, 0, 0, 1), (1,))), [1, 3])
        self.assertEqual(may_loose(house, ((1, 0, 0, 2), (0,))), [])
        self.assertEqual(may_loose(house, ((1, 1, 0, 2), (0,))), [])

    def test_no_deed(self):
        house = (1, ((PUT,), (("same", 0, 1),), ()))
        for hand in (1, 2, 3, 4, -1, -2, -3, LARGE, -LARGE):
            self.assertRaises(NoDeed, behind_loose, house, first_loose(house), hand)
        self.assertRaises(NoDeed, behind_loose, house, ((1, 0, 0), (0,)), 0)
        for hand in (None, True, False, "0", (0,)):
            self.assertRaises(NoDeed, behind_loose, house, first_loose(house), hand)
        self.assertEqual(behind_loose(house, first_loose(house), 0), ((1, 0, 0), (0,)))

    def test_no_house(self):
        for house in NO_LOOSE:
            self.assertRaises(NoHouse, first_loose, house)
            self.assertRaises(NoHouse, may_loose, house, ((0,), (0,)))
            for hand in (0, 9, -1):
                self.assertRaises(NoHouse, behind_loose, house, ((0,), (0,)), hand)

    def test_drawn_houses(self):
        for seed in range(80):
            house = drawn_loose(random.Random(seed))
            self.assertIs(is_loose(house), True)
            stands = loose_stands(house, most=300)
            self.assertEqual(first_loose(house), stands[0])
            for stand in stands[:300]:
                may = [hand for hand in range(len(house[1])) if loose_may(house, stand, hand)]
                self.assertEqual(may_loose(house, stand), may)
                for hand in range(-1, len(house[1]) + 1):
                    if hand in may:
                        self.assertEqual(behind_loose(house, stand, hand), loose_behind(house, stand, hand))
                    else:
                        self.assertRaises(NoDeed, behind_loose, house, stand, hand)

    def test_what_is_told_is_the_askers_own(self):
        house = (1, ((PUT,), (PUT, ("same", 0, 1))))
        was = copy.deepcopy(house)
        stand = first_loose(house)
        told = may_loose(house, stand)
        told.append(7)
        told.reverse()
        self.assertEqual(may_loose(house, stand), [0, 1])
        behind_loose(house, stand, 1)
        self.assertEqual((house, stand), (was, ((0, 0), (0,))))


if __name__ == "__main__":
    unittest.main()
