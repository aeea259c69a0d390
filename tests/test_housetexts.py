import copy
import unittest

from helper import FLOWING, Chance, at, big_house, far_house, house_of
from meetwall.errors import NoHouse, NoText
from meetwall.houses import is_house
from meetwall.housetexts import read_house, show_house
from meetwall.kinds import made

HOUSE = (12, 3, ((0, ((0, "both"), (2, "go"))), (1, ()), (2, ((1, "come"),))), (
    (("raise", 11, 99), ("await", 0, 9999), ("come", 0), ("go", 2), ("begin", 3, ((0, "come"), (2, "go"))),
     ("begin", 3, ((0, "both"),)), ("begin", 1, ()), ("leave", 0), ("work", 0), ("work", 999)),
    (),
    (("say", "a"), ("say", "abcdefgh")),
    (("come", 0),)))
TEXT = """BOXES 12 WALLS 3
SCRIPT
raise 11 99
await 0 9999
come 0
go 2
begin 3 0:come 2:go
begin 3 0:both
begin 1
leave 0
work 0
work 999
SCRIPT
SCRIPT
say a
say abcdefgh
SCRIPT
come 0
FIRST 0 0:both 2:go
FIRST 1
FIRST 2 1:come"""
SMALL = "BOXES 1 WALLS 1\nSCRIPT\nraise 0 1\ncome 0\nbegin 1 0:both\nsay x\nSCRIPT\nwork 3\nFIRST 0 0:both"
THIRTY = "1" + "0" * 29


class ShowTest(unittest.TestCase):
    def test_every_kind_of_deed_and_member(self):
        self.assertIs(is_house(HOUSE), True)
        self.assertEqual(show_house(HOUSE), TEXT)
        self.assertEqual(read_house(TEXT), HOUSE)

    def test_small_houses(self):
        self.assertEqual(show_house((0, 0, ((0, ()),), ((),))), "BOXES 0 WALLS 0\nSCRIPT\nFIRST 0")
        self.assertEqual(show_house(made("tree", 2, 1)), "BOXES 2 WALLS 0\n"
                         "SCRIPT\nsay come\nawait 1 1\nraise 0 1\nsay go\n"
                         "SCRIPT\nsay come\nraise 1 1\nawait 0 1\nsay go\nFIRST 0\nFIRST 1")

    def test_read_back(self):
        houses = [big_house(), made("own", 16, 4), made("spread", 7, 2), made("shared", 1, 0)]
        houses += [Chance(seed, FLOWING + ("say", "go")).house() for seed in range(150)]
        for house in houses:
            text = show_house(house)
            self.assertIsInstance(text, str)
            again = read_house(text)
            self.assertEqual(again, house)
            self.assertIs(is_house(again), True)
            self.assertEqual(show_house(again), text)
            self.assertEqual(len(text.split("\n")), 1 + len(house[3]) + sum(map(len, house[3])) + len(house[2]))

    def test_no_house(self):
        for thing in [None, True, 7, "house", TEXT, [], {}, (), list(HOUSE), HOUSE[:3], HOUSE + (0,), far_house(),
                      house_of([(("come", 0),)]), house_of([(("say", "abcdefghi"),)]), (True,) + HOUSE[1:]]:
            self.assertRaises(NoHouse, show_house, thing)

    def test_nothing_is_changed(self):
        was = copy.deepcopy(HOUSE)
        self.assertEqual([show_house(HOUSE), show_house(HOUSE)], [TEXT, TEXT])
        self.assertEqual(HOUSE, was)


class ReadTest(unittest.TestCase):
    def check(self, error, old, new):
        self.assertIn(old, SMALL)
        self.assertRaises(error, read_house, SMALL.replace(old, new, 1))

    def test_the_small_house(self):
        self.assertEqual(read_house(SMALL), (1, 1, ((0, (at(0),)),), (
            (("raise", 0, 1), ("come", 0), ("begin", 1, (at(0),)), ("say", "x")), (("work", 3),))))

    def test_line_feeds(self):
        for text in ["\n" + SMALL, SMALL + "\n", SMALL + "\n\n", SMALL.replace("\n", "\n\n", 1), "", "\n", " ",
                     SMALL.replace("\n", "\r\n"), SMALL.replace("\n", "\r"), SMALL.replace("\n", " "),
                     SMALL.replace("\n", "\v"), SMALL.replace("\n", "\u2028"), SMALL.replace("\n", "\\n")]:
            self.assertRaises(NoText, read_house, text)
        for place, line in enumerate(SMALL.split("\n")):
            lines = SMALL.split("\n")
            self.assertRaises(NoText, read_house, "\n".join(lines[:place] + [""] + lines[place:]))
            self.assertRaises(NoText, read_house, "\n".join(lines[:place] + [" "] + lines[place:]))

    def test_blanks(self):
        lines = SMALL.split("\n")
        for place, line in enumerate(lines):
            for other in [" " + line, line + " ", line + "\t", "\t" + line, line + "  "]:
                self.assertRaises(NoText, read_house, "\n".join(lines[:place] + [other] + lines[place + 1:]))
            for blank in ("  ", "\t", "\u00a0", "", "_", "   "):
                if " " in line:
                    other = line.replace(" ", blank, 1)
                    self.assertRaises(NoText, read_house, "\n".join(lines[:place] + [other] + lines[place + 1:]))

    def test_numbers(self):
        for number in ("00", "01", "007", "+1", "-1", "-0", "1.0", "1.", ".1", "1e1", "0x1", "1_0", "a", "\u0661",
                       "\u00b2", "\uff11", "1" * 31, "9" * 31, "1" + "0" * 30, "0" * 30, "", "True", "None", "1,0"):
            for old, new in [("BOXES 1", "BOXES " + number), ("WALLS 1", "WALLS " + number),
                             ("come 0", "come " + number), ("raise 0 1", "raise " + number + " 1"),
                             ("raise 0 1", "raise 0 " + number), ("begin 1", "begin " + number),
                             ("work 3", "work " + number), ("0:both", number + ":both"),
                             ("FIRST 0", "FIRST " + number), ("raise 0 1", "await 0 " + number),
                             ("come 0", "go " + number), ("come 0", "leave " + number)]:
                self.check(NoText, old, new)

    def test_thirty_figures_are_read(self):
        for old, new in [("BOXES 1", "BOXES " + THIRTY), ("WALLS 1", "WALLS " + THIRTY), ("come 0", "come " + THIRTY),
                         ("raise 0 1", "raise 0 " + THIRTY), ("begin 1", "begin " + THIRTY),
                         ("work 3", "work " + THIRTY), ("0:both", THIRTY + ":both"), ("FIRST 0", "FIRST " + "9" * 30)]:
            self.check(NoHouse, old, new)

    def test_lines_of_no_such_word(self):
        for line in ["wait 0 1", "RAISE 0 1", "Raise 0 1", "rais 0 1", "raises 0 1", "script", "Script", "SCRIPTS",
                     "0", "x", "first 0", "boxes 1 walls 1", "BOXES 1 WALLS 1", "put 0 1", "same 0 1", "skip 0 1 1",
                     "raise:0 1"]:
            self.check(NoText, "come 0", line)
        for old, new in [("BOXES", "boxes"), ("WALLS", "walls"), ("BOXES", "WALLS"), ("WALLS", "BOXES"),
                         ("BOXES", "BOX"), ("SCRIPT", "script"), ("FIRST", "first"), ("FIRST", "LAST"),
                         ("SCRIPT", "SCRIPT 0")]:
            self.check(NoText, old, new)

    def test_a_word_too_many_or_too_few(self):
        for line in ["raise", "raise 0", "raise 0 1 1", "await", "await 0", "await 0 1 1", "come", "come 0 0", "go",
                     "go 0 0", "leave", "leave 0 0", "begin", "work", "work 1 1", "say", "say a a", "SCRIPT 0",
                     "SCRIPT SCRIPT"]:
            self.check(NoText, "come 0", line)
        for line in ["BOXES 1 WALLS", "BOXES 1", "BOXES", "BOXES 1 WALLS 1 1", "1 1", "BOXES WALLS",
                     "BOXES 1 1 WALLS 1", "BOXES 1 WALLS 1 FIRSTS", "WALLS 1 BOXES 1", "BOXES 1 WALLS 1 BOXES 1"]:
            self.check(NoText, "BOXES 1 WALLS 1", line)
        self.check(NoText, "FIRST 0 0:both", "FIRST")
        self.check(NoText, "FIRST 0 0:both", "FIRST 0 0")
        self.check(NoText, "FIRST 0 0:both", "FIRST 0:both")

    def test_members(self):
        for member in ["0", "0both", "both", ":both", "0:", "0::both", "0:both:", ":", "both:0", "0:Both", "0:bot",
                       "0:come,", "0:leave", "0: both", "0 :both", "0.both", "0:both1:both", "0:0", "0:none"]:
            self.check(NoText, "begin 1 0:both", "begin 1 " + member)
            self.check(NoText, "FIRST 0 0:both", "FIRST 0 " + member)

    def test_said_words_of_other_signs(self):
        for word in ["A", "aB", "a1", "1", "a-b", "a_b", "a.", "\u00e4", "\u0431", "\u00df", "a:b", "a\tb", "\u212a"]:
            self.check(NoText, "say x", "say " + word)
        self.assertEqual(read_house(SMALL.replace("say x", "say abcdefgh"))[3][0][3], ("say", "abcdefgh"))

    def test_the_order_of_lines(self):
        head, first = "BOXES 1 WALLS 0", "FIRST 0"
        house = (1, 0, ((0, ()),), ((("work", 1),),))
        self.assertEqual(read_house("\n".join([head, "SCRIPT", "work 1", first])), house)
        for lines in [[head, "work 1", "SCRIPT", first], [head, "SCRIPT", first, "work 1"], [head, first, "SCRIPT"],
                      [head, "SCRIPT", first, "SCRIPT"], [head, "SCRIPT", first, "SCRIPT", first],
                      ["SCRIPT", head, first], ["SCRIPT", first], [first], [head, "SCRIPT", first, head],
                      [head, head, "SCRIPT", first], [head, "work 1"], [head, first, "work 1"],
                      [head, "SCRIPT", head, first]]:
            self.assertRaises(NoText, read_house, "\n".join(lines))

    def test_what_can_be_read_but_is_no_house(self):
        for text in ["BOXES 0 WALLS 0", "BOXES 0 WALLS 0\nSCRIPT", "BOXES 0 WALLS 0\nFIRST 0",
                     "BOXES 0 WALLS 0\nSCRIPT\nFIRST 1", "BOXES 100 WALLS 0\nSCRIPT\nFIRST 0",
                     "BOXES 0 WALLS 7\nSCRIPT\nFIRST 0", "BOXES 0 WALLS 0" + "\nSCRIPT" * 21 + "\nFIRST 0",
                     "BOXES 0 WALLS 0\nSCRIPT" + "\nFIRST 0" * 41,
                     "BOXES 0 WALLS 0\nSCRIPT" + "\nwork 1" * 81 + "\nFIRST 0",
                     "BOXES 0 WALLS 0\nSCRIPT" + "\nwork 1" * 80 + "\nFIRST 0" * 16]:
            self.assertRaises(NoHouse, read_house, text)
        for old, new in [("raise 0 1", "raise 1 1"), ("raise 0 1", "raise 0 0"), ("raise 0 1", "raise 0 100"),
                         ("raise 0 1", "await 0 0"), ("raise 0 1", "await 0 10000"), ("come 0", "come 1"),
                         ("come 0", "leave 0"), ("begin 1", "begin 0"), ("begin 1", "begin 2"),
                         ("work 3", "work 1000"), ("work 3", "come 0\ncome 1"), ("FIRST 0 0:both", "FIRST 0"),
                         ("FIRST 0 0:both", "FIRST 0 0:go"), ("begin 1 0:both", "begin 1 1:both"),
                         ("say x", "begin 0")]:
            self.check(NoHouse, old, new)

    def test_members_that_do_not_rise(self):
        text = "BOXES 0 WALLS 3\nSCRIPT\nFIRST 0 "
        self.assertEqual(read_house(text + "0:both 2:go")[2], ((0, (at(0), at(2, "go"))),))
        for members in ["2:go 0:both", "0:both 0:both", "0:both 0:go", "0:go 2:go 1:go", "3:both"]:
            self.assertRaises(NoHouse, read_house, text + members)

    def test_words_of_nine_letters(self):
        for word in ("abcdefghi", "a" * 500):
            self.check(NoHouse, "say x", "say " + word)

    def test_no_text_goes_ahead_of_no_house(self):
        self.assertRaises(NoText, read_house, "BOXES 100 WALLS 0\nSCRIPT\nsay abcdefghi\nFIRST 9 0:none")
        self.assertRaises(NoText, read_house, "BOXES 100 WALLS 0\nSCRIPT\nFIRST 0\n")

    def test_other_things(self):
        for thing in [None, 7, True, b"BOXES", [], TEXT.split("\n"), HOUSE, {}]:
            self.assertRaises(NoText, read_house, thing)


if __name__ == "__main__":
    unittest.main()
