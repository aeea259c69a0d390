import itertools
import random
import unittest

from helper import (COME, GO, Chance, at, deeds_of, every_deed, every_hand, going, has_done, house_of, own, played_by,
                    reached, shared, small_houses, spread, tree, woven)
from meetwall.errors import NoWall, TooMany
from meetwall.houses import is_house
from meetwall.made import are_papers, cost, is_plain, tried
from meetwall.musts import must
from meetwall.weavings import end

def at_a_wall(n, p):
    script = (COME, ("come", 0), ("go", 0), GO) * p
    return house_of([script], ((0, (at(0),)),) * n, boxes=0, walls=1)


def by_a_begun_one(n, p):
    """Each begins, in each phase, a hand that raises the box for it; one hand more hears and says nothing."""
    script = ()
    for q in range(p):
        script += (COME, ("begin", 1, ()), ("await", 0, n * (q + 1)), GO)
    hearer = (("await", 0, n * p), ("work", 1)) if p else ()
    return house_of([script, (("work", 2), ("raise", 0, 1)), hearer], ((0, ()),) * n + ((2, ()),), boxes=1, walls=0)


KINDS = (shared, own, spread, tree, at_a_wall, by_a_begun_one)


def saying(house, number, word, phase):
    script = every_hand(house)[(number,)]
    return ((number,), [place for place, deed in enumerate(script) if deed == ("say", word)][phase])


def triples(n, p):
    return [(i, j, q) for i in range(n) for j in range(n) for q in range(p) if i != j]


def is_early(house, stand, n, p):
    return any(has_done(stand, saying(house, i, "go", q)) and not has_done(stand, saying(house, j, "come", q))
               for i, j, q in triples(n, p))


def is_paper(house, triple, weaving):
    i, j, q = triple
    player = played_by(house, weaving)
    if player is None:
        return False
    one = saying(house, j, "come", q)
    if has_done(player.stand(), one) or has_done(player.stand(), saying(house, i, "go", q)):
        return False
    return all((hand, player.stand()[hand]) == one for hand in going(player))


def random_wall(draw):
    """A made wall that may hold, be early, be stuck or both: meetings with something left out or put in by chance."""
    n, p = draw.randrange(1, 4), draw.randrange(0, 3)
    scripts = []
    for i in range(n):
        script = ()
        for q in range(p):
            script += (COME,)
            for deed in [("raise", 0, 1), ("await", 0, n * (q + 1)), ("come", 0), ("go", 0), ("begin", n, ())]:
                wanted = draw.random() < (0.85 if deed[0] in ("raise", "come") else 0.5)
                script += (deed,) if wanted else ()
            script += (GO,)
        script += draw.choice(((), (), (("raise", 0, 1),), (("leave", 0), ("work", 1))))
        scripts.append(script)
    scripts.append(draw.choice(((("work", 1),), (("raise", 0, 1),), (("await", 0, 1),))))
    firsts = [(i, (at(0),)) for i in range(n)] + [(n, ())] * draw.randrange(2)
    return house_of(scripts, firsts, boxes=1, walls=1), n, p


class TriedTest(unittest.TestCase):
    def check(self, house, n, p):
        """What tried tells, seen to be what it says."""
        told = tried(house, n, p)
        self.assertIsInstance(told, tuple)
        if told[0] == "holds":
            self.assertEqual(len(told), 2)
            self.assertEqual(sorted(told[1]), sorted(triples(n, p)))
            for triple, weaving in told[1].items():
                self.assertIsInstance(weaving, list)
                self.assertTrue(is_paper(house, triple, weaving), (house, triple))
            self.assertIs(are_papers(house, n, p, told[1]), True)
            return "holds"
        player = played_by(house, told[1])
        self.assertIsInstance(told[1], list)
        if told[0] == "stuck":
            self.assertEqual(len(told), 2)
            self.assertEqual(going(player), [])
            scripts = every_hand(house)
            self.assertTrue(any(player.stand().get(hand) != len(script) for hand, script in scripts.items()))
            return "stuck"
        self.assertEqual((told[0], len(told)), ("early", 5))
        hand, other, phase = told[2:]
        self.assertIn((hand, other, phase), triples(n, p))
        self.assertEqual(deeds_of(told[1])[-1], saying(house, hand, "go", phase))
        self.assertFalse(has_done(player.stand(), saying(house, other, "come", phase)))
        return "early"

    def test_walls_that_hold(self):
        for kind in KINDS:
            for n, p in itertools.product((1, 2, 3, 4, 5), (0, 1, 2)):
                self.assertEqual(self.check(kind(n, p), n, p), "holds", (kind, n, p))

    def test_the_greatest_walls(self):
        for kind in (shared, tree, at_a_wall):
            house = kind(16, 4)
            told = tried(house, 16, 4)
            self.assertEqual((told[0], len(told[1])), ("holds", 16 * 15 * 4))
            self.assertIs(are_papers(house, 16, 4, told[1]), True)

    def test_one_hand_or_no_phase_has_no_papers(self):
        for kind in KINDS:
            for n, p in [(1, 0), (1, 1), (1, 4), (2, 0), (5, 0)]:
                self.assertEqual(tried(kind(n, p), n, p), ("holds", {}))
                self.assertIs(are_papers(kind(n, p), n, p, {}), True)

    def test_early(self):
        for n, p in itertools.product((2, 3, 4), (1, 2)):
            self.assertEqual(self.check(shared(n, p, less=1), n, p), "early")
        for i, j in itertools.permutations(range(3), 2):
            house = own(3, 2, skipped=((i, j),))
            self.assertEqual(self.check(house, 3, 2), "early")
            self.assertEqual(tried(house, 3, 2)[2:4], (i, j))

    def test_early_in_a_later_phase_alone(self):
        script = (COME, ("come", 0), ("go", 0), GO)
        late = house_of([script + (COME, GO), script + (COME, ("come", 0), GO)], ((0, (at(0),)), (1, (at(0),))))
        self.assertEqual(self.check(late, 2, 2), "early")
        self.assertEqual(tried(late, 2, 2)[4], 1)

    def test_a_go_ahead_of_a_come_of_an_earlier_phase(self):
        house = house_of([(COME, GO, COME, GO), (COME, ("raise", 0, 1), GO, COME, GO)], ((0, ()), (1, ())))
        self.assertEqual(self.check(house, 2, 2), "early")

    def test_stuck(self):
        for n, p in itertools.product((1, 2, 3), (1, 2)):
            self.assertEqual(self.check(shared(n, p, less=-1), n, p), "stuck")
        self.assertEqual(tried(house_of([(COME, GO), (("await", 0, 1),)], ((0, ()), (1, ()))), 1, 1)[0], "stuck")

    def test_stuck_by_a_hand_that_is_never_begun(self):
        house = house_of([(COME, GO, ("await", 0, 1), ("begin", 1, ())), ()])
        self.assertEqual(self.check(house, 1, 1), "stuck")

    def test_stuck_without_phases(self):
        house = house_of([(("await", 0, 1),), ()], ((0, ()), (1, ())))
        for n in (1, 2):
            self.assertEqual(tried(house, n, 0), ("stuck", []))

    def test_stuck_goes_ahead_of_early(self):
        house = house_of([(COME, GO, ("await", 0, 9)), (COME, GO)], ((0, ()), (1, ())))
        self.assertEqual(self.check(house, 2, 1), "stuck")

    def test_hands_beyond_the_first_n_need_not_be_waited_for(self):
        house = house_of([(COME, ("come", 0), ("go", 0), GO), (("work", 5), ("raise", 0, 1))],
                         ((0, (at(0),)), (0, (at(0),)), (1, ())))
        self.assertEqual(self.check(house, 2, 1), "holds")

    def test_hands_that_others_begin(self):
        for n, p in [(2, 1), (3, 1), (2, 2)]:
            house = by_a_begun_one(n, p)
            self.assertEqual(self.check(house, n, p), "holds")
            loose = house[:3] + ((house[3][0], (("raise", 0, 2),), ()),)
            self.assertEqual(self.check(loose, n, p), "early")

    def test_all_weavings_of_drawn_walls(self):
        draw = random.Random(7)
        kinds = []
        while len(kinds) < 250:
            house, n, p = random_wall(draw)
            stands = reached(house, most=400)
            if stands is None:
                continue
            self.assertTrue(is_house(house))
            ends = max(stands, key=lambda stand: sum(stand.values()))
            wanted = "holds"
            if any(is_early(house, stand, n, p) for stand in stands):
                wanted = "early"
            if ends != {hand: len(script) for hand, script in every_hand(house).items()}:
                wanted = "stuck"
            kinds.append(self.check(house, n, p))
            self.assertEqual(kinds[-1], wanted, (house, n, p))
        self.assertGreater(min(kinds.count(kind) for kind in ("holds", "early", "stuck")), 30)


class NoWallTest(unittest.TestCase):
    def refused(self, house, n, p):
        self.assertRaises(NoWall, tried, house, n, p)
        for papers in ({}, {(0, 1, 0): []}):
            self.assertRaises(NoWall, are_papers, house, n, p, papers)

    def test_other_numbers_of_hands_and_phases(self):
        house = shared(3, 2)
        self.assertEqual(tried(house, 3, 2)[0], "holds")
        for n, p in [(2, 2), (4, 2), (3, 1), (3, 3), (1, 2), (3, 0), (1, 1), (16, 4)]:
            self.refused(house, n, p)

    def test_numbers_out_of_their_bounds(self):
        house = shared(3, 0)
        for n in (1, 2, 3):
            self.assertEqual(tried(house, n, 0), ("holds", {}))
        for n, p in [(0, 0), (-1, 0), (4, 0), (17, 0), (3, -1), (3, 5), (0, 5), (True, 0), (3, False)]:
            self.refused(house, n, p)

    def test_seventeen_hands_and_five_phases(self):
        self.assertEqual(tried(shared(16, 1), 16, 1)[0], "holds")
        self.refused(shared(17, 1), 17, 1)
        self.refused(house_of([()], ((0, ()),) * 17), 17, 0)
        self.assertEqual(tried(shared(2, 4), 2, 4)[0], "holds")
        self.refused(shared(2, 5), 2, 5)

    def test_says(self):
        more = ("say", "more")
        for script in [(COME,), (GO, COME), (COME, COME, GO, GO), (COME, GO, more), (more, COME, GO), (COME, more, GO),
                       (COME, GO, COME), (GO,), (COME, GO, COME, GO), (COME, GO, GO), ()]:
            self.refused(house_of([script]), 1, 1)
            self.refused(house_of([(COME, GO), script], ((0, ()), (1, ()))), 2, 1)

    def test_other_hands_that_say_something(self):
        for words in [(COME,), (("say", "x"),), (COME, GO)]:
            self.refused(house_of([(COME, GO), words], ((0, ()), (1, ()))), 1, 1)
            self.refused(house_of([(COME, GO, ("begin", 1, ())), words]), 1, 1)
            # Also where it is never begun.
            self.refused(house_of([(COME, GO, ("await", 0, 1), ("begin", 1, ())), words]), 1, 1)

    def test_scripts_that_nobody_is_called_to_may_say_what_they_like(self):
        self.assertEqual(tried(house_of([(COME, GO), (("say", "x"),)]), 1, 1), ("holds", {}))

    def test_too_few_firsts(self):
        house = house_of([(COME, GO, ("begin", 1, ())), ()])
        self.assertEqual(tried(house, 1, 1), ("holds", {}))
        self.refused(house, 2, 1)
        self.refused(house_of([()]), 2, 0)

    def test_what_is_no_wall_is_refused_though_it_is_stuck(self):
        self.refused(house_of([(COME, ("await", 0, 1))]), 1, 1)


class ArePapersTest(unittest.TestCase):
    def setUp(self):
        self.house = own(3, 2)
        self.papers = tried(self.house, 3, 2)[1]

    def asked(self, papers):
        return are_papers(self.house, 3, 2, papers)

    def test_papers_in_another_order(self):
        self.assertIs(self.asked(dict(sorted(self.papers.items(), reverse=True))), True)
        self.assertIs(self.asked(dict(sorted(self.papers.items()))), True)

    def test_other_weavings_will_do(self):
        for triple in self.papers:
            one = saying(self.house, triple[1], "come", triple[2])
            other = saying(self.house, triple[0], "go", triple[2])
            self.assertIs(self.asked({**self.papers, triple: must(self.house, one, other)[1]}), True)
            turned = sorted(self.papers[triple], reverse=True)
            wanted = is_paper(self.house, triple, turned)
            self.assertIs(self.asked({**self.papers, triple: turned}), wanted)

    def test_a_key_left_out(self):
        for triple in self.papers:
            self.assertIs(self.asked({key: self.papers[key] for key in self.papers if key != triple}), False)
        self.assertIs(self.asked({}), False)

    def test_a_key_put_in(self):
        for triple in [(0, 0, 0), (1, 1, 1), (0, 1, 2), (0, 3, 0), (3, 0, 0), (-1, 0, 0), (0, 1, -1), (0, 1), (),
                       (0, 1, 0, 0)]:
            for weaving in ([], self.papers[(0, 1, 0)]):
                self.assertIs(self.asked({**self.papers, triple: weaving}), False)

    def test_a_key_in_anothers_place(self):
        for other in [(0, 0, 0), (0, 1, 2), (5, 1, 0)]:
            papers = dict(self.papers)
            papers[other] = papers.pop((0, 1, 0))
            self.assertIs(self.asked(papers), False)

    def test_a_weaving_exchanged(self):
        told = {True: 0, False: 0}
        for one, other in itertools.permutations(self.papers, 2):
            wanted = is_paper(self.house, one, self.papers[other])
            self.assertEqual(wanted, one[1:] == other[1:])
            self.assertIs(self.asked({**self.papers, one: self.papers[other]}), wanted)
            told[wanted] += 1
        self.assertGreater(min(told.values()), 5)

    def test_a_weaving_spoiled(self):
        for triple, weaving in self.papers.items():
            for spoiled in [[], weaving[:-1], weaving + [(0,)], weaving + [(9,)], weaving[::-1] + [()],
                            end(self.house)[1], [(0, 0)] + weaving]:
                wanted = is_paper(self.house, triple, spoiled)
                self.assertIs(self.asked({**self.papers, triple: spoiled}), wanted, (triple, spoiled))
                self.assertIs(wanted, False)

    def test_the_papers_of_each_triple_are_looked_at(self):
        house = own(3, 1, skipped=((2, 1),))
        self.assertEqual(tried(house, 3, 1)[0], "early")
        papers = {}
        for i, j, q in triples(3, 1):
            papers[(i, j, q)] = must(house, saying(house, j, "come", q), saying(house, i, "go", q))[1]
        self.assertIs(are_papers(house, 3, 1, papers), False)

    def test_never_where_not_all_is_done_at_the_end(self):
        stuck = house_of([(COME, ("raise", 0, 1), ("await", 0, 3), GO)], ((0, ()), (0, ())))
        papers = {(0, 1, 0): [(0,), (0,)], (1, 0, 0): [(1,), (1,)]}
        self.assertTrue(all(is_paper(stuck, triple, weaving) for triple, weaving in papers.items()))
        self.assertIs(are_papers(stuck, 2, 1, papers), False)
        holding = house_of([(COME, ("raise", 0, 1), ("await", 0, 2), GO)], ((0, ()), (0, ())))
        self.assertIs(are_papers(holding, 2, 1, papers), True)
        self.assertIs(are_papers(house_of([(("await", 0, 1),)]), 1, 0, {}), False)

    def test_other_things(self):
        for papers in [None, [], list(self.papers), {**self.papers, (0, 1, 0): tuple(self.papers[(0, 1, 0)])}]:
            self.assertIs(self.asked(papers), False)
        house = shared(2, 1)
        papers = tried(house, 2, 1)[1]
        self.assertIs(are_papers(house, 2, 1, {(0, 1, 0): papers[(0, 1, 0)], (True, 0, 0): papers[(1, 0, 0)]}), False)


class CostTest(unittest.TestCase):
    def test_the_four_kinds(self):
        for n, p in itertools.product(range(2, 9), range(1, 3)):
            rounds = (n - 1).bit_length()
            self.assertEqual(cost(shared(n, p)), (1, n * p, p))
            self.assertEqual(cost(own(n, p))[:2], (n, n * (n - 1) * p))
            self.assertEqual(cost(spread(n, p)), (n * rounds, n * rounds * p, rounds * p))
            self.assertEqual(cost(tree(n, p))[:2], (n, 2 * (n - 1) * p))

    def test_boxes_that_are_raised_at_all(self):
        house = house_of([(("raise", 0, 1), ("raise", 0, 5), ("await", 2, 1)), (("raise", 1, 1),), (("raise", 2, 1),)],
                         ((0, ()), (0, ())))
        self.assertEqual(cost(house), (1, 2, 0))
        self.assertEqual(cost(house_of([()])), (0, 0, 0))

    def test_hands_that_are_never_begun_are_counted(self):
        house = house_of([(("await", 0, 1), ("begin", 1, ())), (("raise", 1, 1), ("await", 1, 1), ("raise", 2, 1))])
        self.assertEqual(cost(house), (2, 2, 0))

    def test_awaits_that_are_never_done_are_not_in_the_depth(self):
        house = house_of([(("raise", 0, 1), ("await", 0, 1), ("await", 0, 2), ("await", 0, 3))])
        self.assertEqual(cost(house), (1, 3, 1))

    def test_awaits_in_a_row(self):
        house = house_of([(("raise", 0, 1),) + (("await", 0, 1),) * 5, (("await", 0, 1),) * 3], ((0, ()), (1, ())))
        self.assertEqual(cost(house), (1, 8, 5))
        house = house_of([(("raise", 0, 1), ("await", 0, 1), ("raise", 1, 1)), (("await", 1, 1), ("raise", 2, 1)),
                          (("await", 2, 1), ("await", 2, 1))], ((0, ()), (1, ()), (2, ())))
        self.assertEqual(cost(house), (3, 4, 4))

    def test_awaits_in_a_row_through_a_wall_and_a_begin(self):
        house = house_of([(("raise", 0, 1), ("await", 0, 1), ("come", 0), ("work", 1)),
                          (("go", 0), ("begin", 2, ())), (("await", 0, 1),)],
                         ((0, (at(0, "come"),)), (1, (at(0, "go"),))))
        self.assertEqual(cost(house), (1, 2, 2))

    def test_of_drawn_houses_the_longest_row_of_musts(self):
        depths = []
        for seed in range(150):
            house = Chance(seed, ("raise", "raise", "raise", "await", "await", "begin", "come")).house(most=8, firsts=4)
            scripts = every_hand(house)
            deeds = [scripts[hand][place] for hand, place in every_deed(house)]
            done = deeds_of(woven(house, lambda hands, turn: hands[0]))
            awaits = [(hand, place) for hand, place in done if scripts[hand][place][0] == "await"]
            ahead = {other: [one for one in awaits if one != other and must(house, one, other)[0] == "must"]
                     for other in awaits}
            height = lambda name: 1 + max((height(one) for one in ahead[name]), default=0)
            depths.append(max((height(name) for name in awaits), default=0))
            self.assertEqual(cost(house), (len({deed[1] for deed in deeds if deed[0] == "raise"}),
                                           len([deed for deed in deeds if deed[0] == "await"]), depths[-1]))
        self.assertGreater(len(set(depths)), 3)

    def test_300_deeds_and_301(self):
        long = (("raise", 0, 1), ("await", 0, 1)) * 30
        self.assertEqual(cost(house_of([long], ((0, ()),) * 5)), (1, 150, 30))
        self.assertRaises(TooMany, cost, house_of([long, (("work", 1),)], ((0, ()),) * 5 + ((1, ()),)))
        self.assertEqual(cost(house_of([long, ()], ((0, ()),) * 5 + ((1, ()),)))[0], 1)

    def test_deeds_of_hands_that_are_never_begun_are_counted_among_the_301(self):
        long = (("work", 1),) * 74
        house = house_of([(("await", 0, 1),) + (("begin", 1, ()),) * 4, long, long])
        self.assertRaises(TooMany, cost, house)
        house = house_of([(("begin", 1, ()),) * 4, long, long + long[:6]])
        self.assertEqual(cost(house), (0, 0, 0))


class IsPlainTest(unittest.TestCase):
    def test_the_kinds(self):
        for n, p in itertools.product((1, 2, 3, 5), (1, 2)):
            self.assertIs(is_plain(own(n, p)), True)
            self.assertIs(is_plain(spread(n, p)), True)
            self.assertIs(is_plain(tree(n, p)), True)
            self.assertIs(is_plain(shared(n, p)), n == 1)
            self.assertIs(is_plain(at_a_wall(n, p)), True)
            self.assertIs(is_plain(by_a_begun_one(n, p)), n * p == 1)

    def test_one_hand_may_raise_a_box_more_than_once(self):
        self.assertIs(is_plain(house_of([(("raise", 0, 1), ("raise", 1, 1), ("raise", 0, 1))])), True)
        self.assertIs(is_plain(house_of([()])), True)

    def test_two_hands_of_one_script(self):
        self.assertIs(is_plain(house_of([(("raise", 0, 1),)], ((0, ()), (0, ())))), False)
        self.assertIs(is_plain(house_of([(("await", 0, 1),)], ((0, ()), (0, ())))), True)

    def test_a_hand_and_one_that_it_begins(self):
        self.assertIs(is_plain(house_of([(("raise", 0, 1), ("begin", 1, ())), (("raise", 0, 1),)])), False)
        self.assertIs(is_plain(house_of([(("raise", 1, 1), ("begin", 1, ())), (("raise", 0, 1),)])), True)
        # Also where it is never begun.
        never = (("raise", 0, 1), ("await", 1, 1), ("begin", 1, ()))
        self.assertIs(is_plain(house_of([never, (("raise", 0, 1),)])), False)

    def test_scripts_that_nobody_is_called_to(self):
        self.assertIs(is_plain(house_of([(("raise", 0, 1),), (("raise", 0, 1),)])), True)

    def test_drawn_houses(self):
        told = {True: 0, False: 0}
        for house, stands, chance in small_houses(60):
            raised = {}
            for hand, script in every_hand(house).items():
                for deed in script:
                    if deed[0] == "raise":
                        raised.setdefault(deed[1], set()).add(hand)
            wanted = all(len(hands) < 2 for hands in raised.values())
            self.assertIs(is_plain(house), wanted)
            told[wanted] += 1
        self.assertGreater(min(told.values()), 5)


if __name__ == "__main__":
    unittest.main()
