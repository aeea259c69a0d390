"""The desk: houses under names, and answers to rows that ask of them."""

from meetwall.errors import NoName, NoRow
from meetwall.housetexts import read_house
from meetwall.kinds import made
from meetwall.made import cost, tried
from meetwall.moments import moment
from meetwall.musts import must
from meetwall.weavings import end
from meetwall.wordforms import read_words

# Of each row's first word what stands behind it, on the same line.
ROWS = {
    "house": ("name",),
    "end": ("name",),
    "must": ("name", "hand", "number", "hand", "number"),
    "moment": ("name", "hand", "number"),
    "wall": ("name", "number", "number"),
    "cost": ("name",),
    "make": ("letters", "name", "number", "number"),
}


# The row's first word, what its other words say, and the text behind its first line feed.
def read_row(row):
    if not isinstance(row, str):
        raise NoRow("a row is a text")
    parts = row.partition("\n")
    words = parts[0].split(" ")
    has_text = parts[1] == "\n"
    forms = ROWS.get(words[0])
    said = None if forms is None else read_words(forms, words[1:])
    if said is None or has_text != (words[0] == "house"):
        raise NoRow("there is no such row")
    return (words[0], said, parts[2])


def answer_end(house):
    told = end(house)
    return " ".join([told[0], str(len(told[1]))])


def answer_moment(house, deed):
    told = moment(house, deed)
    return "never" if told is None else str(told)


def answer(word, house, said):
    if word == "end":
        return answer_end(house)
    if word == "must":
        return must(house, (said[0], said[1]), (said[2], said[3]))[0]
    if word == "moment":
        return answer_moment(house, (said[0], said[1]))
    if word == "wall":
        return tried(house, said[0], said[1])[0]
    return " ".join([str(number) for number in cost(house)])


class Desk:
    def __init__(self):
        self.houses = {}

    def say(self, row):
        asked = read_row(row)
        word = asked[0]
        said = asked[1]
        if word == "house":
            self.houses[said[0]] = read_house(asked[2])
            return "ok"
        if word == "make":
            self.houses[said[1]] = made(said[0], said[2], said[3])
            return "ok"
        if said[0] not in self.houses:
            raise NoName("nothing stands under this name")
        return answer(word, self.houses[said[0]], said[1:])
