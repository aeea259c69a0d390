import inspect
import itertools
import unittest

from helper import COME, FLOWING, GO, Chance, at, every_deed, house_of
from meetwall.desk import Desk
from meetwall.errors import NoDeed, NoHand, NoHouse, NoName, NoRow, NoText, NoWall, TooMany
from meetwall.housetexts import show_house
from meetwall.kinds import made
from meetwall.made import cost, tried
from meetwall.moments import moment
from meetwall.musts import must
from meetwall.weavings import end

WALL = house_of([(COME, ("work", 3), ("come", 0), ("go", 0), GO),
                 (COME, ("begin", 2, ()), ("come", 0), ("go", 0), GO), (("work", 2),)],
                ((0, (at(0),)), (1, (at(0),))))
KNOT = house_of([(("await", 0, 1), ("begin", 1, ())), (("work", 1),), (("work", 4), ("say", "x"))], ((0, ()), (2, ())))
EARLY = house_of([(COME, GO)], ((0, ()), (0, ())))
STUCK = house_of([(COME, ("await", 0, 1), GO)], ((0, ()), (0, ())))
LONG = house_of([(("work", 1),) * 61], ((0, ()),) * 5)
HOUSES = {"wall": WALL, "knot": KNOT, "early": EARLY, "stuck": STUCK, "long": LONG, "a": made("spread", 4, 1)}
THIRTY = "9" * 30


def told(name, house):
    return "house " + name + "\n" + show_house(house)


def desk_with(houses):
    desk = Desk()
    for name, house in houses.items():
        desk.say(told(name, house))
    return desk


def dotted(hand):
    return ".".join(str(number) for number in hand)


class AnswersTest(unittest.TestCase):
    def setUp(self):
        self.desk = desk_with(HOUSES)

    def check(self, row, answer):
        said = self.desk.say(row)
        self.assertIsInstance(said, str)
        self.assertEqual(said, answer, row)

    def test_house(self):
        self.check("house b\nBOXES 1 WALLS 0\nSCRIPT\nraise 0 1\nFIRST 0", "ok")
        self.check("end b", "all 1")
        self.check("house abcdefgh\nBOXES 1 WALLS 0\nSCRIPT\nFIRST 0", "ok")
        self.check("end abcdefgh", "all 0")

    def test_end(self):
        self.check("end wall", "all 11")
        self.check("end knot", "knot 2")
        self.check("end stuck", "knot 2")
        self.check("end a", "all 24")

    def test_must(self):
        self.check("must wall 0 0 1 4", "must")
        self.check("must wall 0 0 1 1", "free")
        self.check("must wall 1 1 1.0 0", "must")
        self.check("must wall 1.0 0 1 4", "free")
        # Also where the other is never done.
        self.check("must knot 1 1 0.0 0", "must")

    def test_moment(self):
        self.check("moment wall 0 0", "0")
        self.check("moment wall 1 4", "3")
        self.check("moment wall 1.0 0", "2")
        self.check("moment knot 0 0", "never")
        self.check("moment knot 0.0 0", "never")
        self.check("moment knot 1 1", "4")

    def test_wall(self):
        self.check("wall wall 2 1", "holds")
        self.check("wall early 2 1", "early")
        self.check("wall stuck 2 1", "stuck")
        self.check("wall a 4 1", "holds")
        self.check("make own a 3 0", "ok")
        self.check("wall a 3 0", "holds")

    def test_cost(self):
        self.check("cost wall", "0 0 0")
        self.check("cost stuck", "0 2 0")
        self.check("cost a", "8 8 2")

    def test_make(self):
        for kind, n, p in itertools.product(("shared", "own", "spread", "tree"), (1, 3, 16), (0, 1, 4)):
            self.check(f"make {kind} w {n} {p}", "ok")
            house = made(kind, n, p)
            self.check("end w", "all " + str(len(end(house)[1])))
            self.check(f"wall w {n} {p}", "holds")

    def test_a_house_told_anew_stands_in_the_elder_ones_place(self):
        self.check(told("wall", KNOT), "ok")
        self.check("end wall", "knot 2")
        self.check("make own wall 2 1", "ok")
        self.check("end wall", "all 8")
        self.check(told("wall", WALL), "ok")
        self.check("end wall", "all 11")
        self.check("end knot", "knot 2")

    def test_names_may_be_like_words_of_rows(self):
        for name in ("house", "end", "make", "ok", "own"):
            self.check(f"make tree {name} 2 1", "ok")
            self.check(f"end {name}", "all 8")
        self.check("cost house", "2 2 2")

    def test_two_desks_beside_one_another(self):
        other = Desk()
        self.assertRaises(NoName, other.say, "end wall")
        self.assertEqual(other.say(told("wall", KNOT)), "ok")
        self.assertEqual(other.say("make tree new 2 1"), "ok")
        self.assertEqual(other.say("end wall"), "knot 2")
        self.check("end wall", "all 11")
        self.assertRaises(NoName, self.desk.say, "end new")

    def test_asked_again_it_is_answered_the_same(self):
        for row in ["end wall", "must wall 0 0 1 4", "moment wall 1 4", "wall wall 2 1", "cost wall"]:
            self.assertEqual(len({self.desk.say(row) for turn in range(3)}), 1)

    def test_the_class(self):
        self.assertEqual(list(inspect.signature(Desk).parameters), [])
        self.assertEqual(list(inspect.signature(Desk.say).parameters), ["self", "row"])


class ModulesTest(unittest.TestCase):
    def check(self, house):
        """All that is asked of a house at the desk is what the modules tell."""
        desk = desk_with({"h": house})
        kind, weaving = end(house)[:2]
        self.assertEqual(desk.say("end h"), f"{kind} {len(weaving)}")
        self.assertEqual(desk.say("cost h"), "{} {} {}".format(*cost(house)))
        deeds = every_deed(house)[:8]
        for one, other in itertools.permutations(deeds, 2):
            row = f"must h {dotted(one[0])} {one[1]} {dotted(other[0])} {other[1]}"
            self.assertEqual(desk.say(row), must(house, one, other)[0])
        for hand, place in deeds:
            wanted = moment(house, (hand, place))
            self.assertEqual(desk.say(f"moment h {dotted(hand)} {place}"), "never" if wanted is None else str(wanted))
        for n, p in [(1, 0), (2, 0), (2, 1)]:
            try:
                wanted = tried(house, n, p)[0]
            except NoWall:
                self.assertRaises(NoWall, desk.say, f"wall h {n} {p}")
            else:
                self.assertEqual(desk.say(f"wall h {n} {p}"), wanted)

    def test_drawn_houses(self):
        for seed in range(80):
            self.check(Chance(seed, FLOWING).house())
        for house in (WALL, KNOT, EARLY, STUCK):
            self.check(house)


class RefusalsTest(unittest.TestCase):
    def setUp(self):
        self.desk = desk_with(HOUSES)

    def refused(self, error, *rows):
        """Each row, and nothing is changed by it."""
        asked = [f"end {name}" for name in HOUSES] + [f"cost {name}" for name in HOUSES if name != "long"]
        ahead = [self.desk.say(row) for row in asked]
        for row in rows:
            self.assertRaises(error, self.desk.say, row)
            self.assertRaises(NoName, self.desk.say, "end new")
        self.assertEqual([self.desk.say(row) for row in asked], ahead)

    def test_no_row_by_its_first_word(self):
        self.refused(NoRow, "", " ", "\n", "x", "ends wall", "End wall", "END wall", "tell wall", "made own a 2 1",
                     "ok", "wall", "end", "must", "moment", "cost", "make", "house", "show wall", "\nend wall",
                     "endwall")

    def test_no_row_by_too_many_or_too_few_words(self):
        for row in ["end wall", "must wall 0 0 1 4", "moment wall 0 0", "wall wall 2 1", "cost wall", "make own a 2 1"]:
            self.assertIsInstance(self.desk.say(row), str)
            words = row.split(" ")
            self.refused(NoRow, row + " ", " " + row, row + " 0", row + " wall", row + "\n", row + "\nend wall",
                         row.replace(" ", "  ", 1), row.replace(" ", "\t", 1), " ".join(words[:-1]), row + "\t",
                         row.replace(" ", "\n", 1), "\n" + row, row + "\r", words[0], words[0] + " ")
            self.desk.say(told("a", HOUSES["a"]))

    def test_no_row_by_a_name(self):
        for name in ("", "A", "Wall", "wall1", "1", "abcdefghi", "w.l", "w-l", "w_l", "\u00e4", "0"):
            self.refused(NoRow, f"end {name}", f"cost {name}", f"must {name} 0 0 1 4", f"moment {name} 0 0",
                         f"wall {name} 2 1", f"make own {name} 2 1", f"house {name}\n" + show_house(WALL),
                         f"house {name}\n")

    def test_no_row_by_a_number(self):
        for number in ("", "00", "01", "+1", "-1", "1.0", "1.", "x", "1" * 31, "\u0661", "\u00b2", "1_0", "True"):
            self.refused(NoRow, f"must wall 0 {number} 1 4", f"must wall 0 0 1 {number}", f"moment wall 0 {number}",
                         f"wall wall {number} 1", f"wall wall 2 {number}", f"make own a {number} 1",
                         f"make own a 2 {number}")

    def test_no_row_by_a_hand(self):
        for hand in ("", ".", "0.", ".0", "0..0", "00", "0.00", "01", "-1", "0.-1", "0,0", "(0,)", "x", "0.x",
                     "1" * 31, "0." + "1" * 31, "0:0"):
            self.refused(NoRow, f"must wall {hand} 0 1 4", f"must wall 0 0 {hand} 4", f"moment wall {hand} 0")

    def test_no_row_by_a_kind(self):
        for kind in ("", "Own", "own1", "OWN", "0", "o.n", "\u00e4"):
            self.refused(NoRow, f"make {kind} new 2 1")

    def test_no_row_for_a_house_without_a_line_feed(self):
        self.refused(NoRow, "house new", "house new BOXES 0 WALLS 0", "house new x\nBOXES 0 WALLS 0\nSCRIPT\nFIRST 0",
                     "house new \nBOXES 0 WALLS 0\nSCRIPT\nFIRST 0", "house\nBOXES 0 WALLS 0\nSCRIPT\nFIRST 0",
                     "house  new\nBOXES 0 WALLS 0\nSCRIPT\nFIRST 0", "house \nBOXES 0 WALLS 0\nSCRIPT\nFIRST 0",
                     "house new\r\nBOXES 0 WALLS 0\nSCRIPT\nFIRST 0")

    def test_no_row_for_other_things(self):
        self.refused(NoRow, None, 7, True, b"end wall", ["end", "wall"], ("end", "wall"), {})

    def test_no_name(self):
        self.refused(NoName, "end new", "cost new", "must new 0 0 1 4", "moment new 0 0", "wall new 2 1",
                     # Ahead of what the stages refuse.
                     "must new 9 9 9 9", "moment new 9 9", "wall new 17 5", "must new 0 0 0 0")

    def test_no_row_goes_ahead_of_no_name(self):
        self.refused(NoRow, "end new 0", "must new 0 0 1", "moment new 00 0", "wall new 2 -1", "must new 9 9 9 x")

    def test_no_hand(self):
        for hand in ("2", "0.0", "1.1", "1.0.0", THIRTY, "0." + THIRTY):
            self.refused(NoHand, f"must wall {hand} 0 1 4", f"must wall 0 0 {hand} 0", f"moment wall {hand} 0",
                         # Ahead of the deeds, of both hands.
                         f"must wall {hand} 99 1 4", f"must wall 0 99 {hand} 0", f"must wall {hand} 0 1 99",
                         f"must wall {hand} 0 {hand} 0", f"moment wall {hand} 99")

    def test_no_deed(self):
        self.refused(NoDeed, "must wall 0 5 1 4", "must wall 0 0 1 5", "must wall 0 0 0 0", "moment wall 0 5",
                     "moment wall 1.0 1", f"moment wall 0 {THIRTY}", f"must wall 0 {THIRTY} 1 4")

    def test_no_wall(self):
        self.refused(NoWall, "wall wall 1 1", "wall wall 3 1", "wall wall 2 0", "wall wall 2 2", "wall wall 17 1",
                     "wall wall 0 1", "wall wall 2 5", f"wall wall {THIRTY} 1", f"wall wall 2 {THIRTY}",
                     "wall knot 1 1")

    def test_no_wall_is_made(self):
        for kind in ("none", "a", "owns", "made", "abcdefgh", "abcdefghi", "a" * 99):
            self.refused(NoWall, f"make {kind} new 2 1", f"make {kind} wall 2 1")
        for kind in ("shared", "own", "spread", "tree"):
            self.refused(NoWall, f"make {kind} new 0 1", f"make {kind} new 17 1", f"make {kind} wall 2 5",
                         f"make {kind} wall {THIRTY} 1", f"make {kind} wall 2 {THIRTY}")

    def test_too_many(self):
        self.assertEqual(self.desk.say("end long"), "all 305")
        self.refused(TooMany, "cost long")

    def test_no_text(self):
        self.refused(NoText, "house new\n", "house wall\n", "house new\nx", "house wall\n" + show_house(KNOT) + "\n",
                     "house wall\n\n" + show_house(KNOT), "house new\nBOXES 0 WALLS 0\nSCRIPT\nsay A\nFIRST 0")

    def test_no_house(self):
        self.refused(NoHouse, "house new\nBOXES 0 WALLS 0", "house wall\nBOXES 0 WALLS 0\nSCRIPT\nFIRST 1",
                     "house wall\nBOXES 0 WALLS 0\nSCRIPT\nsay abcdefghi\nFIRST 0",
                     "house wall\nBOXES 0 WALLS 2\nSCRIPT\nFIRST 0 1:both 0:both")

    def test_an_empty_desk(self):
        desk = Desk()
        self.assertRaises(NoName, desk.say, "end wall")
        self.assertRaises(NoHouse, desk.say, "house wall\nBOXES 0 WALLS 0")
        self.assertRaises(NoName, desk.say, "end wall")
        self.assertRaises(NoWall, desk.say, "make own wall 0 0")
        self.assertRaises(NoName, desk.say, "end wall")


if __name__ == "__main__":
    unittest.main()
