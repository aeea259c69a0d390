import itertools
import random
import unittest

from helper import COME, GO, every_hand, house_of, own, shared, spread, tree
from meetwall.errors import NoWall, TooMany
from meetwall.houses import is_house
from meetwall.kinds import made
from meetwall.made import are_papers, cost, is_plain, tried

TOLD = {"shared": shared, "own": own, "spread": spread, "tree": tree}
SIZES = list(itertools.product(range(1, 17), range(0, 5)))
LARGE = 10 ** 29


def rounds(n):
    return min(r for r in range(5) if 2 ** r >= n)


def deeds_in(house):
    return sum(len(script) for script in every_hand(house).values())


def without(house, number, place):
    """The house with one deed of one script left out."""
    scripts = list(house[3])
    scripts[number] = scripts[number][:place] + scripts[number][place + 1:]
    return house[:3] + (tuple(scripts),)


def awaits_in(house):
    return [(number, place) for number, script in enumerate(house[3]) for place, deed in enumerate(script)
            if deed[0] == "await"]


class MadeTest(unittest.TestCase):
    def test_three_hands_and_two_phases_written_out(self):
        firsts = ((0, ()), (1, ()), (2, ()))
        script = (COME, ("raise", 0, 1), ("await", 0, 3), GO, COME, ("raise", 0, 1), ("await", 0, 6), GO)
        self.assertEqual(made("shared", 3, 2), (1, 0, firsts, (script, script, script)))
        self.assertEqual(made("own", 3, 2), (3, 0, firsts, (
            (COME, ("raise", 0, 1), ("await", 1, 1), ("await", 2, 1), GO,
             COME, ("raise", 0, 1), ("await", 1, 2), ("await", 2, 2), GO),
            (COME, ("raise", 1, 1), ("await", 0, 1), ("await", 2, 1), GO,
             COME, ("raise", 1, 1), ("await", 0, 2), ("await", 2, 2), GO),
            (COME, ("raise", 2, 1), ("await", 0, 1), ("await", 1, 1), GO,
             COME, ("raise", 2, 1), ("await", 0, 2), ("await", 1, 2), GO))))
        self.assertEqual(made("spread", 3, 2), (6, 0, firsts, (
            (COME, ("raise", 0, 1), ("await", 2, 1), ("raise", 3, 1), ("await", 4, 1), GO,
             COME, ("raise", 0, 1), ("await", 2, 2), ("raise", 3, 1), ("await", 4, 2), GO),
            (COME, ("raise", 1, 1), ("await", 0, 1), ("raise", 4, 1), ("await", 5, 1), GO,
             COME, ("raise", 1, 1), ("await", 0, 2), ("raise", 4, 1), ("await", 5, 2), GO),
            (COME, ("raise", 2, 1), ("await", 1, 1), ("raise", 5, 1), ("await", 3, 1), GO,
             COME, ("raise", 2, 1), ("await", 1, 2), ("raise", 5, 1), ("await", 3, 2), GO))))
        self.assertEqual(made("tree", 3, 2), (3, 0, firsts, (
            (COME, ("await", 1, 1), ("await", 2, 1), ("raise", 0, 1), GO,
             COME, ("await", 1, 2), ("await", 2, 2), ("raise", 0, 1), GO),
            (COME, ("raise", 1, 1), ("await", 0, 1), GO, COME, ("raise", 1, 1), ("await", 0, 2), GO),
            (COME, ("raise", 2, 1), ("await", 0, 1), GO, COME, ("raise", 2, 1), ("await", 0, 2), GO))))

    def test_a_tree_of_four_hands_written_out(self):
        self.assertEqual(made("tree", 4, 1)[3], (
            (COME, ("await", 1, 1), ("await", 2, 1), ("raise", 0, 1), GO),
            (COME, ("await", 3, 1), ("raise", 1, 1), ("await", 0, 1), GO),
            (COME, ("raise", 2, 1), ("await", 0, 1), GO),
            (COME, ("raise", 3, 1), ("await", 0, 1), GO)))

    def test_one_hand_written_out(self):
        alone = ((0, ()),)
        self.assertEqual(made("shared", 1, 1), (1, 0, alone, ((COME, ("raise", 0, 1), ("await", 0, 1), GO),)))
        self.assertEqual(made("own", 1, 1), (1, 0, alone, ((COME, ("raise", 0, 1), GO),)))
        self.assertEqual(made("spread", 1, 2), (0, 0, alone, ((COME, GO, COME, GO),)))
        self.assertEqual(made("tree", 1, 1), (1, 0, alone, ((COME, ("raise", 0, 1), GO),)))

    def test_no_phase_written_out(self):
        firsts = ((0, ()), (1, ()), (2, ()))
        for kind, boxes in [("shared", 1), ("own", 3), ("spread", 6), ("tree", 3)]:
            self.assertEqual(made(kind, 3, 0), (boxes, 0, firsts, ((), (), ())))
        self.assertEqual(made("spread", 1, 0), (0, 0, ((0, ()),), ((),)))

    def test_deed_by_deed(self):
        for kind, told in TOLD.items():
            for n, p in SIZES:
                self.assertEqual(made(kind, n, p), told(n, p), (kind, n, p))

    def test_each_is_a_house_that_holds(self):
        for kind in TOLD:
            for n, p in SIZES:
                house = made(kind, n, p)
                self.assertIs(is_house(house), True)
                word, papers = tried(house, n, p)
                self.assertEqual((word, len(papers)), ("holds", n * (n - 1) * p), (kind, n, p))
                self.assertIs(are_papers(house, n, p, papers), True)
                self.assertIs(is_plain(house), kind != "shared" or n == 1 or p == 0)

    def test_told_again_it_is_the_same(self):
        for kind in TOLD:
            self.assertEqual(made(kind, 5, 2), made(kind, 5, 2))


class NoWallTest(unittest.TestCase):
    def test_other_words(self):
        for kind in ["", "Shared", "OWN", "shared ", " own", "spreads", "tre", "made", "sharedown", "none", "\ntree"]:
            for n, p in [(1, 0), (3, 2), (0, 0), (17, 5)]:
                self.assertRaises(NoWall, made, kind, n, p)

    def test_numbers_out_of_their_bounds(self):
        for kind in TOLD:
            for n in (0, -1, -16, 17, 18, 99, LARGE, -LARGE):
                for p in (0, 1, 4, 5, -1):
                    self.assertRaises(NoWall, made, kind, n, p)
            for p in (-1, -4, 5, 6, 99, LARGE, -LARGE):
                for n in (1, 2, 16, 17):
                    self.assertRaises(NoWall, made, kind, n, p)

    def test_truths_and_other_things(self):
        for kind in [None, 0, True, [], {}, ("own",)]:
            self.assertRaises(NoWall, made, kind, 2, 1)
        for n, p in [(True, 1), (2, True), (2, False), (None, 1), ("2", 1), (2, "1"), ([2], 1)]:
            self.assertRaises(NoWall, made, "own", n, p)


class CostTest(unittest.TestCase):
    def check(self, kind, boxes, awaits, depth=None):
        """What is told of each number of hands and phases, all but those whose deeds are too many."""
        seen = 0
        for n, p in itertools.product(range(2, 17), range(1, 5)):
            house = made(kind, n, p)
            if deeds_in(house) > 300:
                self.assertRaises(TooMany, cost, house)
                continue
            told = cost(house)
            self.assertEqual(told[:2], (boxes(n), awaits(n) * p), (kind, n, p))
            if depth:
                self.assertEqual(told[2], depth(n) * p, (kind, n, p))
            seen += 1
        self.assertGreater(seen, 20)

    def test_shared(self):
        self.check("shared", lambda n: 1, lambda n: n, lambda n: 1)

    def test_own(self):
        self.check("own", lambda n: n, lambda n: n * (n - 1))

    def test_spread(self):
        self.check("spread", lambda n: n * rounds(n), lambda n: n * rounds(n), rounds)

    def test_tree(self):
        self.check("tree", lambda n: n, lambda n: 2 * (n - 1))

    def test_none_of_the_awaits_can_be_left_out(self):
        for kind, n in itertools.product(("shared", "own", "tree"), range(2, 9)):
            house = made(kind, n, 1)
            for number, place in awaits_in(house):
                less = without(house, number, place)
                self.assertIs(is_house(less), True)
                self.assertEqual(tried(less, n, 1)[0], "early", (kind, n, number, place))

    def test_no_plain_wall_of_one_phase_has_fewer_awaits_or_less_depth(self):
        least = {}
        draw = random.Random(19)
        for turn in range(600):
            n = draw.randrange(2, 6)
            house = made(draw.choice(("own", "spread", "tree")), n, 1)
            while tried(house, n, 1)[0] == "holds":
                told = cost(house)
                least[n] = min(least.get(n, told[1]), told[1])
                self.assertGreaterEqual(told[1], 2 * (n - 1))
                self.assertGreaterEqual(told[2], rounds(n))
                house = without(house, *draw.choice(awaits_in(house)))
        self.assertEqual(least, {n: 2 * (n - 1) for n in range(2, 6)})

    def test_an_await_late_in_a_phase_may_serve_the_next(self):
        one = (COME, ("await", 1, 1), GO, COME, ("raise", 0, 1), ("await", 1, 2), GO)
        other = (COME, ("raise", 1, 1), ("await", 0, 1), GO, COME, ("raise", 1, 1), GO)
        house = house_of([one, other], ((0, ()), (1, ())), boxes=2, walls=0)
        self.assertEqual((tried(house, 2, 2)[0], is_plain(house), cost(house)), ("holds", True, (2, 3, 3)))


if __name__ == "__main__":
    unittest.main()
