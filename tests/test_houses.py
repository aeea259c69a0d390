import copy
import unittest

from helper import Chance, at, big_house, far_house, house_of
from meetwall.errors import NoHouse
from meetwall.houses import is_house, need_house

SMALL = (1, 1, ((0, ((0, "both"),)),), ((("come", 0), ("go", 0)),))


class Untouchable:
    """Something that is not to be compared, counted or walked."""

    def refuse(self, *others):
        raise RuntimeError("touched")

    __eq__ = __ne__ = __lt__ = __le__ = __gt__ = __ge__ = __hash__ = __len__ = __iter__ = __bool__ = refuse


class HouseCase(unittest.TestCase):
    def yes(self, thing):
        self.assertIs(is_house(thing), True, thing)

    def no(self, thing):
        self.assertIs(is_house(thing), False, thing)


class AnythingTest(HouseCase):
    def test_a_small_house(self):
        self.yes(SMALL)

    def test_things_that_are_no_tuples(self):
        itself = []
        itself.append(itself)
        things = [None, True, False, 0, 1, -5, 10 ** 40, 1.5, "", "house", "abcd", b"abcd", [], {}, set(), itself,
                  object(), int, len, {0: 1}, list(SMALL), dict(enumerate(SMALL)), range(4), iter(SMALL), Untouchable()]
        for thing in things:
            self.no(thing)

    def test_tuples_of_any_length_and_depth(self):
        deep = ()
        for step in range(5000):
            deep = (deep,)
        for thing in [(), (0,), (0, 0), (1, 1, ()), SMALL[:3], SMALL + (0,), SMALL + SMALL, (SMALL,),
                      (None,) * 4, ("a",) * 4, ((),) * 4]:
            self.no(thing)
        for place in range(4):
            self.assertIs(is_house(SMALL[:place] + (deep,) + SMALL[place + 1:]), False)
        self.assertIs(is_house(deep), False)

    def test_wrong_things_in_every_place(self):
        wrong = [None, True, False, 1.0, 0.0, "", "both", "0", b"a", [], {}, (), ((),), [0], -1, 10 ** 30, object(),
                 Untouchable()]
        whole = (1, 1, ((0, ((0, "both"),)),),
                 ((("raise", 0, 1), ("await", 0, 1), ("come", 0), ("go", 0), ("begin", 1, ((0, "go"),)),
                   ("work", 0), ("say", "a"), ("leave", 0)), ()))
        # What leaves a house where it is put: by its look, as True and 1.0 are equal to 1.
        fine = [((2, 0, 1, 0, 1), "'both'"), ((3,), "((),)"), ((3, 0), "()"), ((3, 1), "()"),
                ((3, 0, 4, 2), "()"), ((3, 0, 4, 2, 0, 1), "'both'"), ((3, 0, 6, 1), "'both'")]
        self.yes(whole)
        for path in self.paths(whole):
            for thing in wrong:
                answer = is_house(self.with_put(whole, path, thing))
                self.assertIs(answer, (path, repr(thing)) in fine, (path, thing))

    def paths(self, thing, path=()):
        found = [path] if path else []
        if isinstance(thing, tuple):
            for place, part in enumerate(thing):
                found += self.paths(part, path + (place,))
        return found

    def with_put(self, whole, path, thing):
        if not path:
            return thing
        place = path[0]
        return whole[:place] + (self.with_put(whole[place], path[1:], thing),) + whole[place + 1:]

    def test_lists_where_tuples_are_asked_for(self):
        for path in self.paths(SMALL):
            part = SMALL
            for place in path:
                part = part[place]
            if isinstance(part, tuple):
                self.no(self.with_put(SMALL, path, list(part)))

    def test_truths_where_whole_numbers_are_asked_for(self):
        self.yes((1, 1, ((1, ((0, "both"),)),), ((), ())))
        self.no((True, 1, ((1, ((0, "both"),)),), ((), ())))
        self.no((1, True, ((1, ((0, "both"),)),), ((), ())))
        self.no((1, 1, ((True, ((0, "both"),)),), ((), ())))
        self.no((1, 1, ((1, ((False, "both"),)),), ((), ())))
        for deed in [("raise", False, 1), ("raise", 0, True), ("await", False, 1), ("await", 0, True),
                     ("come", False), ("go", False), ("leave", False), ("begin", True, ()),
                     ("begin", 1, ((False, "go"),)), ("work", True), ("work", False), ("say", True)]:
            self.no(house_of([(deed,), ()], ((0, (at(0),)),)))


class BoundsTest(HouseCase):
    def test_boxes(self):
        for boxes in (0, 1, 98, 99):
            self.yes(house_of([()], boxes=boxes))
        for boxes in (-1, 100, 1000):
            self.no(house_of([()], boxes=boxes))

    def test_walls(self):
        for walls in (0, 1, 5, 6):
            self.yes(house_of([()], walls=walls))
        for walls in (-1, 7, 100):
            self.no(house_of([()], walls=walls))

    def test_scripts(self):
        self.no(house_of([]))
        for many in (1, 2, 19, 20):
            self.yes(house_of([()] * many))
        for many in (21, 22):
            self.no(house_of([()] * many))

    def test_deeds_of_a_script_called_or_not(self):
        for many in (0, 1, 79, 80):
            self.yes(house_of([(("work", 1),) * many, ()]))
            self.yes(house_of([(), (("work", 1),) * many]))
        self.no(house_of([(("work", 1),) * 81, ()]))
        self.no(house_of([(), (("work", 1),) * 81]))

    def test_firsts(self):
        self.no(house_of([()], ()))
        for many in (1, 2, 39, 40):
            self.yes(house_of([()], ((0, ()),) * many))
        self.no(house_of([()], ((0, ()),) * 41))

    def test_first_callings(self):
        self.yes(house_of([(), ()], ((1, ()),)))
        self.no(house_of([(), ()], ((2, ()),)))
        self.no(house_of([(), ()], ((-1, ()),)))
        self.no(house_of([()], ((0,),)))
        self.no(house_of([()], ((0, (), ()),)))
        self.no(house_of([()], (0,)))

    def test_members(self):
        for members in [(), (at(0),), (at(2),), (at(0), at(1)), (at(0, "come"), at(1, "go"), at(2))]:
            self.yes(house_of([()], ((0, members),)))
            self.yes(house_of([(), (("begin", 2, members),), ()]))
        for members in [(at(1), at(0)), (at(0), at(0)), (at(0, "come"), at(0, "go")), (at(3),), (at(-1),),
                        (at(0, "Both"),), (at(0, "leave"),), (at(0, ""),), (at(0, None),), ((0,),), (0,),
                        ((0, "both", 0),), (at(0), at(2), at(1)), ([0, "both"],), ("ab",), (at(0, ["both"]),)]:
            self.no(house_of([()], ((0, members),)))
            self.no(house_of([(), (("begin", 2, members),), ()]))

    def test_all_walls_of_six(self):
        members = tuple(at(wall) for wall in range(6))
        self.yes(house_of([()], ((0, members),), walls=6))
        self.no(house_of([()], ((0, members),), walls=5))


class DeedsTest(HouseCase):
    # The script with the deed is not called: it is to be told right all the same.
    def deed(self, deed, boxes=2, walls=2):
        return house_of([(), (deed,), ()], boxes=boxes, walls=walls)

    def all_yes(self, deeds):
        for deed in deeds:
            self.yes(self.deed(deed))

    def all_no(self, deeds):
        for deed in deeds:
            self.no(self.deed(deed))
            self.no(house_of([(deed,)], ((0, (at(0), at(1))),), 2, 2))

    def test_raises(self):
        self.all_yes([("raise", 0, 1), ("raise", 1, 99), ("raise", 0, 2), ("raise", 0, 98)])
        self.all_no([("raise", 0, 0), ("raise", 0, 100), ("raise", -1, 1), ("raise", 2, 1), ("raise", 0, -1),
                     ("raise", 0), ("raise",), ("raise", 0, 1, 1), ["raise", 0, 1]])

    def test_awaits(self):
        self.all_yes([("await", 0, 1), ("await", 1, 9999), ("await", 0, 100), ("await", 0, 9998)])
        self.all_no([("await", 0, 0), ("await", 0, 10000), ("await", -1, 1), ("await", 2, 1), ("await", 0),
                     ("await",), ("await", 0, 1, 1)])

    def test_deeds_at_walls(self):
        for word in ("come", "go", "leave"):
            self.all_yes([(word, 0), (word, 1)])
            self.all_no([(word, 2), (word, -1), (word,), (word, 0, 0), (word, 0, 0, 0), (word, "0"), (word, (0,))])

    def test_works(self):
        self.all_yes([("work", 0), ("work", 1), ("work", 998), ("work", 999)])
        self.all_no([("work", -1), ("work", 1000), ("work",), ("work", 1, 1), ("work", 1, 1, 1), ("work", "1")])

    def test_words(self):
        self.all_yes([("say", "a"), ("say", "z"), ("say", "az"), ("say", "abcdefgh"), ("say", "come")])
        self.all_no([("say", ""), ("say", "abcdefghi"), ("say", "A"), ("say", "aB"), ("say", "a1"), ("say", "a b"),
                     ("say", "a\n"), ("say", "\u00e4"), ("say", "`"), ("say", "{"), ("say", 1), ("say", ("a",)),
                     ("say",), ("say", "a", "b"), ("say", "a", "b", "c"), ("say", ["a"]), ("say", b"a"), ("say", "a\u0300")])

    def test_begins(self):
        self.all_yes([("begin", 2, ()), ("begin", 2, (at(0), at(1, "go")))])
        self.all_no([("begin", 3, ()), ("begin", -1, ()), ("begin", 2), ("begin", 2, (), ()), ("begin", 2, [])])

    def test_a_begin_of_a_script_that_is_not_behind_its_own(self):
        self.no(house_of([(("begin", 0, ()),), ()]))
        self.yes(house_of([(("begin", 1, ()),), ()]))
        for number in (0, 1):
            self.no(house_of([(), (("begin", number, ()),), ()]))
        self.no(house_of([(("begin", 1, ()),), (("begin", 0, ()),)]))

    def test_other_words(self):
        self.all_no([("rest",), ("rest", 0), ("put", 0, 1), ("Raise", 0, 1), ("", 0), (), (0, 0), (None, 0), "come",
                     (("come",), 0), (["come"], 0), None, 0, ("both", 0), ("same", 0, 1)])

    def test_what_is_told_must_be_there_called_or_not(self):
        self.no(self.deed(("raise", 0, 1), boxes=0))
        self.no(self.deed(("await", 0, 1), boxes=0))
        self.no(self.deed(("come", 0), walls=0))
        self.no(self.deed(("go", 1), walls=1))
        self.no(self.deed(("leave", 1), walls=1))
        self.no(self.deed(("begin", 2, (at(1),)), walls=1))
        self.yes(self.deed(("begin", 2, (at(1),)), walls=2))


class FitsTest(HouseCase):
    def fits(self, deeds, members, others=((),)):
        return is_house(house_of([tuple(deeds)] + list(others), ((0, members),)))

    def test_come(self):
        for mode, answer in (("both", True), ("come", True), ("go", False)):
            self.assertIs(self.fits([("come", 0)], (at(0, mode),)), answer)
        self.assertIs(self.fits([("come", 0)], ()), False)
        self.assertIs(self.fits([("come", 0)], (at(1),)), False)

    def test_go(self):
        for mode, answer in (("both", True), ("come", False), ("go", True)):
            self.assertIs(self.fits([("go", 0)], (at(0, mode),)), answer)
        self.assertIs(self.fits([("go", 0)], ()), False)
        self.assertIs(self.fits([("go", 0)], (at(1),)), False)

    def test_leave(self):
        for mode in ("both", "come", "go"):
            self.assertIs(self.fits([("leave", 0)], (at(0, mode),)), True)
        self.assertIs(self.fits([("leave", 0)], ()), False)
        self.assertIs(self.fits([("leave", 0)], (at(1),)), False)

    def test_deeds_at_a_wall_that_was_left(self):
        for deed in [("come", 0), ("go", 0), ("leave", 0), ("begin", 1, (at(0),)), ("begin", 1, (at(0, "go"),))]:
            self.assertIs(self.fits([("leave", 1), deed], (at(0), at(1))), True)
            self.assertIs(self.fits([("leave", 0), deed], (at(0), at(1))), False)
            self.assertIs(self.fits([("leave", 0), ("work", 1), deed], (at(0),)), False)

    def test_members_handed_on(self):
        for had in ("both", "come", "go"):
            for told in ("both", "come", "go"):
                answer = self.fits([("begin", 1, (at(0, told),))], (at(0, had),))
                self.assertIs(answer, had in ("both", told), (had, told))
        self.assertIs(self.fits([("begin", 1, (at(0),))], ()), False)
        self.assertIs(self.fits([("begin", 1, (at(0), at(1)))], (at(0),)), False)
        self.assertIs(self.fits([("begin", 1, (at(0), at(1, "go")))], (at(0), at(1))), True)
        self.assertIs(self.fits([("begin", 1, ())], (at(0),)), True)

    def test_a_beginner_keeps_what_it_hands_on(self):
        self.assertIs(self.fits([("begin", 1, (at(0),)), ("come", 0), ("begin", 1, (at(0),))], (at(0),)), True)
        self.assertIs(self.fits([("begin", 1, (at(0),)), ("come", 0)], (at(0),), [(("leave", 0),)]), True)

    def test_a_begun_script_that_does_not_fit(self):
        begun = [(("come", 0),)]
        self.assertIs(self.fits([("begin", 1, (at(0, "come"),))], (at(0),), begun), True)
        self.assertIs(self.fits([("begin", 1, (at(0, "go"),))], (at(0),), begun), False)
        self.assertIs(self.fits([("begin", 1, ())], (at(0),), begun), False)
        below = [(("begin", 2, (at(0, "go"),)),), (("come", 0),)]
        self.assertIs(self.fits([("begin", 1, (at(0),))], (at(0),), below), False)
        below[0] = (("begin", 2, (at(0, "come"),)),)
        self.assertIs(self.fits([("begin", 1, (at(0),))], (at(0),), below), True)

    def test_one_script_called_with_members_that_fit_and_that_do_not(self):
        script = (("come", 0),)
        self.yes(house_of([script], ((0, (at(0),)), (0, (at(0, "come"),)))))
        self.no(house_of([script], ((0, (at(0),)), (0, (at(0, "go"),)))))
        self.no(house_of([script], ((0, (at(0, "go"),)), (0, (at(0),)))))

    def test_a_script_that_nobody_calls_need_not_fit(self):
        self.yes(house_of([(), (("come", 0),)]))
        self.yes(house_of([(), (("begin", 2, (at(0, "go"),)),), (("come", 0),)]))
        self.yes(house_of([(("come", 0), ("begin", 1, (at(0),))), ()], ((1, ()),)))
        self.no(house_of([(), (("come", 0),)], ((0, ()), (1, ()))))

    def test_random_houses_are_houses(self):
        for seed in range(300):
            self.yes(Chance(seed).house())


class ManyTest(HouseCase):
    def test_sixty_hands_by_firsts_and_begins(self):
        scripts = [(("begin", 2, ()),), (("begin", 2, ()),) * 2, ()]
        self.yes(house_of(scripts, ((0, ()),) * 30))
        self.no(house_of(scripts, ((0, ()),) * 29 + ((1, ()),)))
        self.no(house_of(scripts, ((0, ()),) * 31))
        self.yes(house_of([(("begin", 1, ()),) * 59, ()]))
        self.no(house_of([(("begin", 1, ()),) * 60, ()]))

    def test_sixty_hands_by_begins_within_begins(self):
        inner = (("begin", 2, ()),) * 6
        self.yes(house_of([(("begin", 1, ()),) * 8 + (("begin", 2, ()),) * 3, inner, ()]))
        self.no(house_of([(("begin", 1, ()),) * 8 + (("begin", 2, ()),) * 4, inner, ()]))

    def test_twelve_hundred_deeds(self):
        script = (("work", 0),) * 30
        self.yes(house_of([script, script + (("work", 0),)], ((0, ()),) * 40))
        self.no(house_of([script, script + (("work", 0),)], ((0, ()),) * 39 + ((1, ()),)))

    def test_twelve_hundred_deeds_by_begins_within_begins(self):
        # 2 + 2 * (3 + 3 * 80) = 488; with 712 and 713 more.
        scripts = [(("begin", 1, ()),) * 2, (("begin", 2, ()),) * 3, (("work", 1),) * 80, (("work", 1),) * 72,
                   (("work", 1),) * 73]
        more = ((2, ()),) * 8
        self.yes(house_of(scripts, ((0, ()), (3, ())) + more))
        self.no(house_of(scripts, ((0, ()), (4, ())) + more))

    def test_scripts_that_nobody_calls_are_not_counted(self):
        scripts = ((),) + far_house()[3][1:]
        self.yes((0, 0, ((0, ()),), scripts))

    def test_a_house_at_the_bounds(self):
        house = big_house()
        self.yes(house)
        self.no(house[:2] + (house[2] + house[2][:1],) + house[3:])

    def test_far_beyond_the_bounds(self):
        self.assertIs(is_house(far_house()), False)
        self.assertIs(is_house(far_house()[:2] + (((0, ()),),) + far_house()[3:]), False)


class NeedHouseTest(unittest.TestCase):
    def test_a_house_is_told_none(self):
        self.assertIsNone(need_house(SMALL))
        self.assertIsNone(need_house(big_house()))

    def test_anything_else_is_refused(self):
        for thing in [None, True, 0, "house", [], {}, (), list(SMALL), SMALL[:3], far_house(),
                      house_of([(("come", 0),)])]:
            with self.assertRaises(NoHouse):
                need_house(thing)

    def test_what_is_handed_in_stays_as_it_was(self):
        lists = [[1, 1], [[0, [[0, "both"]]]], [["come", 0]]]
        kept = copy.deepcopy(lists)
        is_house(lists)
        is_house(tuple(lists))
        self.assertEqual(lists, kept)


if __name__ == "__main__":
    unittest.main()
