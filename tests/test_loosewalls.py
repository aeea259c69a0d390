import copy
import random
import unittest

from helper import COME, GO, NO_LOOSE, check_own, loose_behind, loose_may, loose_stands
from meetwall.errors import NoHouse, NoWall, TooMany
from meetwall.loose import is_loose
from meetwall.loosewalls import holds_by, is_early, is_stuck, tried_loose

LARGE = 10 ** 29
PUT = ("put", 0, 0)


def counter(n, p, boxes=6, met=None):
    """Each phase is met in the box behind the last one's, and then in the first one again, which isn't put back."""
    script = ()
    for q in range(p):
        script += (COME, ("raise", q % boxes, 1), ("same", q % boxes, met or n), GO)
    return (boxes, (script,) * n)


def taken_back(p):
    """One hand puts 1 into the box, and the other one puts it back to 0."""
    asker = (COME, ("put", 0, 1), ("same", 0, 0), GO)
    answerer = (COME, ("same", 0, 1), ("put", 0, 0), GO)
    return (1, (asker * p, answerer * p))


def strolling(lengths, more=()):
    """Hands that hinder nobody, p = 0."""
    return (2, tuple((PUT,) * length for length in lengths) + tuple(more))


def first_of(house):
    return ((0,) * len(house[1]), (0,) * house[0])


def played_by(house, weaving):
    stand = first_of(house)
    for hand in weaving:
        if not 0 <= hand < len(house[1]) or not loose_may(house, stand, hand):
            return None
        stand = loose_behind(house, stand, hand)
    return stand


def says_of(house, weaving):
    """A list of tuples (hand, word)."""
    stand = first_of(house)
    said = []
    for hand in weaving:
        deed = house[1][hand][stand[0][hand]]
        if deed[0] == "say":
            said.append((hand, deed[1]))
        stand = loose_behind(house, stand, hand)
    return said


def is_early_by_words(house, weaving):
    if not weaving or played_by(house, weaving) is None:
        return False
    said = says_of(house, weaving)
    if len(said) == len(says_of(house, weaving[:-1])) or said[-1][1] != "go":
        return False
    phase = said.count(said[-1])
    return any(said.count((hand, "come")) < phase for hand in range(len(house[1])))


def stops(house, stand):
    going = [hand for hand in range(len(house[1])) if loose_may(house, stand, hand)]
    return not going and any(place < len(script) for place, script in zip(stand[0], house[1]))


def is_stuck_by_words(house, weaving):
    stand = played_by(house, weaving)
    return stand is not None and stops(house, stand)


def said_early(house, stand):
    done = [script[:place] for place, script in zip(stand[0], house[1])]
    return any(one.count(GO) > other.count(COME) for one in done for other in done)


def is_kept(house, stands):
    """By the words of the interface, of loose stands of the house."""
    if len(set(stands)) != len(stands) or len(stands) > 3000 or first_of(house) not in stands:
        return False
    for stand in stands:
        if stops(house, stand) or said_early(house, stand):
            return False
        for hand in range(len(house[1])):
            if loose_may(house, stand, hand) and loose_behind(house, stand, hand) not in stands:
                return False
    return True


def weavings_by_length(house, most):
    """Weavings layer by layer, one to each stand and set of says."""
    layer = {first_of(house): []}
    for length in range(most):
        yield from layer.values()
        later = {}
        for stand, weaving in layer.items():
            for hand in range(len(house[1])):
                if loose_may(house, stand, hand):
                    later.setdefault(loose_behind(house, stand, hand), weaving + [hand])
        layer = later


def shortest(house):
    """How long the shortest early and the shortest stuck weavings are, None where there are none."""
    early = stuck = None
    most = sum(len(script) for script in house[1]) + 1
    for weaving in weavings_by_length(house, most):
        if stuck is None and is_stuck_by_words(house, weaving):
            stuck = len(weaving)
        for hand in range(len(house[1])):
            if early is None and is_early_by_words(house, weaving + [hand]):
                early = len(weaving) + 1
    return early, stuck


def drawn_wall(draw):
    """A loose wall that may hold, be early, be stuck or both."""
    n, p = draw.randrange(1, 4), draw.randrange(0, 3)
    if draw.random() < 0.2:
        house, n, p = draw.choice([(taken_back(p), 2, p), (counter(n, p), n, p), (counter(n, p, boxes=1), n, p)])
    else:
        house = (2, tuple(drawn_script(draw, n, p) for hand in range(n)))
    if draw.random() < 0.3:
        house = spoiled(draw, house)
    return house, p


def drawn_script(draw, n, p):
    script = ()
    for q in range(p):
        box = draw.randrange(2) if draw.random() < 0.3 else q % 2
        between = [("raise", box, 1)] * (draw.random() < 0.9) + [("same", box, n)] * (draw.random() < 0.7)
        if draw.random() < 0.3:
            between.insert(0, ("skip", draw.randrange(2), draw.randrange(2), 1))
            between.append(draw.choice([("put", box, n), ("raise", box, 9)]))
        script += (COME,) + tuple(between) + (GO,)
        if draw.random() < 0.3:
            script += (draw.choice([("put", box, 0), ("same", box, 0), ("raise", box, 1)]),)
    return script


def spoiled(draw, house):
    """One deed that isn't said is left out, where there are no skips."""
    scripts = list(house[1])
    number = draw.randrange(len(scripts))
    places = [place for place, deed in enumerate(scripts[number]) if deed[0] != "say"]
    if not places or any(deed[0] == "skip" for deed in scripts[number]):
        return house
    place = draw.choice(places)
    scripts[number] = scripts[number][:place] + scripts[number][place + 1:]
    return (house[0], tuple(scripts))


class TriedLooseTest(unittest.TestCase):
    def check(self, house, p):
        told = tried_loose(house, p)
        self.assertIsInstance(told, tuple)
        self.assertEqual(len(told), 2)
        self.assertIsInstance(told[1], list)
        early, stuck = shortest(house)
        if early is not None:
            self.assertEqual((told[0], len(told[1])), ("early", early), (house, p))
            self.assertTrue(is_early_by_words(house, told[1]))
            self.assertIs(is_early(house, p, told[1]), True)
        elif stuck is not None:
            self.assertEqual((told[0], len(told[1])), ("stuck", stuck), (house, p))
            self.assertTrue(is_stuck_by_words(house, told[1]))
            self.assertIs(is_stuck(house, told[1]), True)
        else:
            self.assertEqual(told[0], "holds", (house, p))
            self.assertEqual(sorted(told[1]), sorted(loose_stands(house)))
            self.assertIs(holds_by(house, p, told[1]), True)
        return told[0]

    def test_walls_that_hold(self):
        for n in (1, 2, 3):
            for p in (0, 1, 2):
                self.assertEqual(self.check(counter(n, p), p), "holds")
        self.assertEqual(self.check(counter(4, 1), 1), "holds")
        for p in range(8):
            self.assertEqual(self.check(taken_back(p), p), "holds")

    def test_early(self):
        for n in (2, 3):
            self.assertEqual(self.check(counter(n, 1, met=1), 1), "early")
        self.assertEqual(tried_loose((0, ((COME, GO), (COME, GO))), 1)[0], "early")
        self.assertEqual(len(tried_loose((0, ((COME, GO), (COME, GO))), 1)[1]), 2)

    def test_early_in_a_later_phase_alone(self):
        one = (COME, ("raise", 0, 1), ("same", 0, 2), GO, COME, GO)
        self.assertEqual(self.check((1, (one, one)), 2), "early")
        self.assertEqual(len(tried_loose((1, (one, one)), 2)[1]), 2 + 2 + 2 + 2)

    def test_early_for_want_of_one_hand_alone(self):
        house = (1, ((COME, ("raise", 0, 1), ("same", 0, 2), GO),) * 2 + ((COME, ("same", 0, 2), GO),))
        self.assertEqual(self.check(house, 1), "early")

    def test_stuck(self):
        self.assertEqual(self.check(counter(2, 2, boxes=1), 2), "stuck")
        self.assertEqual(self.check(counter(2, 1, met=3), 1), "stuck")
        self.assertEqual(tried_loose((1, ((("same", 0, 1),),)), 0), ("stuck", []))

    def test_stuck_by_a_number_that_was_gone_by(self):
        house = (1, ((("raise", 0, 1), ("raise", 0, 1)), (("same", 0, 1),)))
        self.assertEqual(tried_loose(house, 0), ("stuck", [0, 0]))

    def test_early_goes_ahead_of_stuck(self):
        house = (1, ((("same", 0, 1), COME, GO), (COME, PUT, PUT, GO)))
        self.assertEqual(shortest(house), (4, 4))
        self.assertEqual(self.check(house, 1), "early")
        house = (2, ((COME, PUT, PUT, PUT, GO), (("skip", 1, 1, 1), ("put", 1, 1), ("same", 1, 0), COME, GO)))
        self.assertEqual(self.check(house, 1), "early")

    def test_early_goes_ahead_of_a_shorter_stuck_one(self):
        house = (1, ((COME, ("put", 0, 2), ("same", 0, 1), GO),
                     (COME, ("put", 0, 1), PUT, ("same", 0, 0), PUT, PUT, GO),
                     (("same", 0, 1), COME, ("put", 0, 1), GO)))
        early, stuck = shortest(house)
        self.assertTrue(early is not None and stuck is not None and stuck < early, (early, stuck))
        self.assertEqual(self.check(house, 1), "early")

    def test_skips(self):
        skipping = (COME, ("skip", 0, 0, 1), ("same", 0, 9), ("raise", 0, 1), GO)
        self.assertEqual(self.check((1, (skipping,)), 1), "holds")
        self.assertEqual(self.check((1, (skipping, skipping)), 1), "early")
        last = (COME, ("raise", 0, 1), ("skip", 0, 2, 1), ("same", 1, 1), ("put", 1, 1), GO)
        self.assertEqual(self.check((2, (last, last)), 1), "holds")

    def test_drawn_walls(self):
        draw = random.Random(24)
        kinds = []
        while len(kinds) < 300:
            house, p = drawn_wall(draw)
            if len(loose_stands(house, most=400)) <= 400:
                kinds.append(self.check(house, p))
        self.assertGreater(min(kinds.count(kind) for kind in ("holds", "early", "stuck")), 30)


class TooManyTest(unittest.TestCase):
    def test_3000_stands_are_told(self):
        house = strolling((29, 9, 9))
        word, stands = tried_loose(house, 0)
        self.assertEqual((word, len(stands), len(set(stands))), ("holds", 3000, 3000))
        self.assertIs(holds_by(house, 0, stands), True)

    def test_3001_are_refused(self):
        hands = tuple((PUT,) * (length - 1) + (("raise", 1, 1),) for length in (29, 9, 9))
        self.assertEqual(len(tried_loose((2, hands), 0)[1]), 3000)
        house = (2, hands + ((("same", 1, 3),),))
        self.assertEqual(len(loose_stands(house)), 3001)
        self.assertRaises(TooMany, tried_loose, house, 0)
        self.assertRaises(TooMany, tried_loose, strolling((30, 30, 30, 30)), 0)

    def test_ahead_of_stuck(self):
        waiting = (("same", 1, 5),)
        self.assertEqual(tried_loose(strolling((29, 9, 9), [waiting]), 0)[0], "stuck")
        self.assertRaises(TooMany, tried_loose, strolling((30, 9, 9), [waiting]), 0)

    def test_ahead_of_early(self):
        for many, error in [(12, None), (13, TooMany)]:
            script = (COME, GO) + (PUT,) * many
            house = (1, (script, script, (COME, GO) + (PUT,) * 10))
            if error:
                self.assertRaises(error, tried_loose, house, 1)
            else:
                self.assertEqual(tried_loose(house, 1), ("early", tried_loose(house, 1)[1]))
                self.assertEqual(len(tried_loose(house, 1)[1]), 2)

    def test_more_than_3000_do_not_hold(self):
        house = strolling((30, 9, 9))
        stands = loose_stands(house)
        self.assertEqual(len(stands), 3100)
        self.assertIs(holds_by(house, 0, stands), False)
        house = strolling((29, 9, 9))
        stands = loose_stands(house)
        self.assertIs(holds_by(house, 0, stands), True)
        self.assertIs(holds_by(house, 0, stands + [((29, 9, 9), (0, 5))]), False)

    def test_no_wall_goes_ahead_of_too_many(self):
        self.assertRaises(NoWall, tried_loose, strolling((30, 30, 30)), 1)


class NoWallTest(unittest.TestCase):
    def refused(self, error, house, p):
        self.assertRaises(error, tried_loose, house, p)
        for weaving in ([], [0], [9], [-1]):
            self.assertRaises(error, is_early, house, p, weaving)
        for stands in ([], [((0,), (0,))]):
            self.assertRaises(error, holds_by, house, p, stands)

    def test_phases(self):
        self.assertEqual(tried_loose((0, ((),)), 0), ("holds", [((0,), ())]))
        self.assertEqual(tried_loose((0, ((COME, GO) * 15,)), 15)[0], "holds")
        for p in (-1, -15, 16, 17, LARGE, -LARGE, True, False, None, "0"):
            for house in [(0, ((),)), (0, ((COME, GO),)), (0, ((COME, GO) * 15,))]:
                self.refused(NoWall, house, p)

    def test_another_number_of_phases(self):
        for p in range(4):
            for other in range(5):
                if p != other:
                    self.refused(NoWall, counter(2, p), other)

    def test_says_that_are_not_by_turns(self):
        more = ("say", "more")
        for script in [(COME,), (GO,), (GO, COME), (COME, COME, GO, GO), (COME, GO, GO), (COME, GO, more),
                       (more, COME, GO), (COME, more, GO), (COME, GO, COME), (COME, GO, COME, GO), (), (PUT,), (more,)]:
            self.refused(NoWall, (1, (script,)), 1)
            self.refused(NoWall, (1, ((COME, GO), script)), 1)
            self.refused(NoWall, (1, (script, (COME, GO))), 1)
        self.refused(NoWall, (1, ((more,),)), 0)

    def test_a_skip_that_leaves_out_a_say(self):
        for skip in [(("skip", 0, 5, 1), COME, GO), (COME, ("skip", 0, 5, 1), GO), (COME, ("skip", 0, 5, 2), PUT, GO),
                     (("skip", 0, 5, 3), PUT, COME, GO), (COME, PUT, ("skip", 0, 5, 3), PUT, GO, PUT)]:
            self.assertTrue(is_loose((1, (skip,))))
            self.refused(NoWall, (1, (skip,)), 1)
            self.refused(NoWall, (1, ((COME, GO), skip)), 1)
        for skip in [(("skip", 0, 5, 1), PUT, COME, GO), (COME, ("skip", 0, 0, 1), PUT, GO),
                     (COME, GO, ("skip", 0, 0, 1), PUT), (COME, ("skip", 0, 5, 2), PUT, PUT, GO)]:
            self.assertEqual(tried_loose((1, (skip,)), 1)[0], "holds")

    def test_no_house_goes_ahead(self):
        for house in NO_LOOSE:
            for p in (0, 1, -1, 16):
                self.refused(NoHouse, house, p)
            for weaving in ([], [0], [9]):
                self.assertRaises(NoHouse, is_stuck, house, weaving)


class PapersTest(unittest.TestCase):
    def spoils(self, draw, weaving, n):
        yield []
        yield from (weaving[:place] for place in range(len(weaving)))
        yield from (weaving + [hand] for hand in range(-2, n + 2))
        yield weaving[::-1]
        for place in range(len(weaving)):
            for hand in (-1, -n, n, LARGE, draw.randrange(n)):
                yield weaving[:place] + [hand] + weaving[place + 1:]

    def test_spoiled_weavings(self):
        told = {"early": 0, "stuck": 0, "none": 0}
        draw = random.Random(25)
        houses = [(counter(2, 2, met=1), 2), (counter(2, 2, boxes=1), 2), (counter(3, 1, met=2), 1), (taken_back(2), 2)]
        houses += [drawn_wall(draw) for turn in range(60)]
        for house, p in houses:
            if len(loose_stands(house, most=400)) > 400:
                continue
            word, paper = tried_loose(house, p)
            weaving = paper if word != "holds" else [0, 0, 1]
            for row in self.spoils(draw, weaving, len(house[1])):
                early, stuck = is_early_by_words(house, row), is_stuck_by_words(house, row)
                self.assertIs(is_early(house, p, row), early, (house, row))
                self.assertIs(is_stuck(house, row), stuck, (house, row))
                told["early" if early else "stuck" if stuck else "none"] += 1
        self.assertGreater(min(told.values()), 10)

    def test_the_empty_list(self):
        self.assertIs(is_early(counter(2, 1, met=1), 1, []), False)
        self.assertIs(is_stuck(counter(2, 1), []), False)
        self.assertIs(is_stuck((1, ((("same", 0, 1),),)), []), True)
        self.assertIs(is_stuck((1, ((), ())), []), False)

    def test_an_early_weaving_need_not_be_the_shortest(self):
        house = (0, ((COME, GO, COME, GO), (COME, GO, COME, GO)))
        self.assertEqual(len(tried_loose(house, 2)[1]), 2)
        for weaving in [[1, 1], [0, 0, 0, 0], [0, 1, 1, 0, 0, 0]]:
            self.assertIs(is_early(house, 2, weaving), True)
        for weaving in [[0], [0, 1, 0], [0, 0, 0], [0, 0, 1], [0, 0, 1, 1], [0, 1, 0, 1, 0, 1, 0]]:
            self.assertIs(is_early(house, 2, weaving), False)

    def test_stuck_needs_no_wall(self):
        house = (1, ((("say", "x"), ("same", 0, 1)), (("say", "y"), ("say", "go"))))
        self.assertIs(is_stuck(house, [0, 1, 1]), True)
        self.assertIs(is_stuck(house, [0, 1]), False)
        self.assertIs(is_stuck(house, [0, 0, 1, 1]), False)

    def test_all_done_is_not_stuck(self):
        self.assertIs(is_stuck((0, ((COME, GO),)), [0, 0]), False)
        self.assertIs(is_stuck((1, ((("skip", 0, 0, 1), PUT),)), [0]), False)

    def test_truths_and_other_things(self):
        house = (1, ((COME, GO), (COME, GO)))
        for weaving in [None, (0, 0), "00", {0: 0}, [False, False], [0, False], [0, None], [(0,), (0,)], ["0", "0"]]:
            self.assertIs(is_early(house, 1, weaving), False)
        self.assertIs(is_early(house, 1, [0, 0]), True)
        stuck = (1, ((PUT, PUT, ("same", 0, 1)),))
        for weaving in [None, (0, 0), "00", [False, False], [0, False], [(0,), (0,)]]:
            self.assertIs(is_stuck(stuck, weaving), False)
        self.assertIs(is_stuck(stuck, [0, 0]), True)


class HoldsByTest(unittest.TestCase):
    def setUp(self):
        self.house = taken_back(2)
        self.stands = tried_loose(self.house, 2)[1]

    def asked(self, stands):
        return holds_by(self.house, 2, stands)

    def test_in_any_order(self):
        self.assertIs(self.asked(self.stands), True)
        self.assertIs(self.asked(self.stands[::-1]), True)
        self.assertIs(self.asked(sorted(self.stands)), True)

    def test_one_left_out(self):
        for stand in self.stands:
            self.assertIs(self.asked([other for other in self.stands if other != stand]), False)
        self.assertIs(self.asked(self.stands[1:]), False)

    def test_one_twice(self):
        for stand in self.stands:
            self.assertIs(self.asked(self.stands + [stand]), False)
            self.assertIs(self.asked([stand] + self.stands), False)

    def test_the_empty_list(self):
        self.assertIs(self.asked([]), False)
        self.assertIs(holds_by((0, ((),)), 0, []), False)
        self.assertIs(holds_by((0, ((),)), 0, [((0,), ())]), True)

    def test_those_that_are_not_come_to(self):
        house = (1, ((COME, PUT, GO),))
        stands = [((place,), (0,)) for place in range(4)]
        self.assertIs(holds_by(house, 1, stands), True)
        self.assertIs(holds_by(house, 1, stands + [((3,), (7,))]), True)
        self.assertIs(holds_by(house, 1, stands + [((1,), (7,))]), True)
        self.assertIs(holds_by(house, 1, stands + [((0,), (7,))]), False)
        self.assertIs(holds_by(house, 1, stands + [((0,), (7,)), ((1,), (7,))]), True)

    def test_one_that_is_early(self):
        house = counter(2, 1, boxes=1)
        stands = tried_loose(house, 1)[1]
        late = ((4, 1), (1,))
        self.assertNotIn(late, stands)
        self.assertIs(holds_by(house, 1, stands + [late]), True)
        # It is closed, and none of them stops; but the first hand has said its go, the other one not its come.
        self.assertEqual(loose_behind(house, ((4, 0), (1,)), 1), late)
        self.assertIs(holds_by(house, 1, stands + [late, ((4, 0), (1,))]), False)
        house = (0, ((COME, GO), (COME, GO)))
        self.assertIs(holds_by(house, 1, loose_stands(house)), False)

    def test_one_that_is_stuck(self):
        house = (1, ((("same", 0, 0), ("same", 0, 0)),))
        stands = [((place,), (0,)) for place in range(3)]
        self.assertIs(holds_by(house, 0, stands), True)
        self.assertIs(holds_by(house, 0, stands + [((0,), (1,))]), False)
        self.assertIs(holds_by(house, 0, stands + [((2,), (1,))]), True)
        stuck = counter(2, 2, boxes=1)
        self.assertIs(holds_by(stuck, 2, loose_stands(stuck)), False)

    def test_what_is_no_stand_of_the_house(self):
        house = (1, ((COME, PUT, GO),))
        stands = [((place,), (0,)) for place in range(4)]
        for stand in [((4,), (0,)), ((-1,), (0,)), ((LARGE,), (0,)), ((3, 3), (0,)), ((), (0,)), ((3,), ()),
                      ((3,), (0, 0)), ((), ()), ((3,), (10,)), ((3,), (-1,))]:
            self.assertIs(holds_by(house, 1, stands + [stand]), False, stand)
            self.assertIs(holds_by(house, 1, [stand]), False, stand)

    def test_truths_and_other_things(self):
        house = (1, ((COME, PUT, GO),))
        stands = [((place,), (0,)) for place in range(4)]
        for thing in [None, (), tuple(stands), {stand: True for stand in stands}, stands + [None], stands + [()],
                      stands + [((3,),)], stands + [((3,), (7,), ())], stands + [[(3,), (7,)]], stands + [([3], (7,))],
                      [((place,), (False,)) for place in range(4)], [((True,), (0,))] + stands[:1] + stands[2:]]:
            self.assertIs(holds_by(house, 1, thing), False)

    def test_drawn_lists(self):
        told = {True: 0, False: 0}
        draw = random.Random(26)
        while told[True] < 100:
            house, p = drawn_wall(draw)
            stands = loose_stands(house, most=60)
            if len(stands) > 60:
                continue
            others = [(tuple(draw.randrange(len(script) + 1) for script in house[1]),
                       tuple(draw.randrange(4) for box in range(house[0]))) for turn in range(3)]
            for row in [stands, stands[1:], stands + others[:1], stands + others, draw.sample(stands, len(stands) - 1)]:
                wanted = is_kept(house, row)
                self.assertIs(holds_by(house, p, row), wanted, (house, row))
                told[wanted] += 1
        self.assertGreater(told[False], 100)


class OwnTest(unittest.TestCase):
    def test_what_is_told_is_the_askers_own(self):
        for house, p in [(taken_back(2), 2), (counter(2, 2, boxes=1), 2), (counter(3, 1, met=2), 1)]:
            was = copy.deepcopy(house)
            check_own(self, lambda: tried_loose(house, p))
            self.assertEqual(house, was)

    def test_what_is_handed_in_stays_as_it_was(self):
        house = counter(2, 1, met=1)
        weaving = tried_loose(house, 1)[1]
        holding = counter(2, 1)
        handed = (house, weaving, holding, tried_loose(holding, 1)[1], [0, 9])
        was = copy.deepcopy(handed)
        for turn in range(2):
            self.assertIs(is_early(house, 1, weaving), True)
            self.assertIs(is_early(house, 1, handed[4]), False)
            self.assertIs(is_stuck(house, weaving), False)
            self.assertIs(is_stuck(house, handed[4]), False)
            self.assertIs(holds_by(holding, 1, handed[3]), True)
            self.assertEqual(handed, was)


if __name__ == "__main__":
    unittest.main()
