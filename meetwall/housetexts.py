"""House texts: houses written line by line, and read back."""

from meetwall.errors import NoText
from meetwall.houses import BOXES, FIRSTS, MODES, SCRIPTS, WALLS, need_house
from meetwall.wordforms import read_word, read_words

# Of each deed's word what stands behind it; a begin's members are told one by one.
DEEDS = {
    "raise": ("number", "number"),
    "await": ("number", "number"),
    "come": ("number",),
    "go": ("number",),
    "leave": ("number",),
    "work": ("number",),
    "say": ("letters",),
}


def show_calling(word, calling):
    members = [f"{wall}:{mode}" for wall, mode in calling[1]]
    return " ".join([word, str(calling[0])] + members)


def show_deed(deed):
    if deed[0] == "begin":
        return show_calling("begin", deed[1:])
    return " ".join([str(part) for part in deed])


def show_house(house):
    need_house(house)
    boxes = house[BOXES]
    walls = house[WALLS]
    lines = [f"BOXES {boxes} WALLS {walls}"]
    for script in house[SCRIPTS]:
        lines.append("SCRIPT")
        lines.extend([show_deed(deed) for deed in script])
    lines.extend([show_calling("FIRST", calling) for calling in house[FIRSTS]])
    return "\n".join(lines)


# All that is read by these may still be no house.
def need_read(value):
    if value is None:
        raise NoText("this text tells no house")
    return value


def read_head(words):
    fits = words[::2] == ["BOXES", "WALLS"]
    return tuple(need_read(read_words(("number", "number"), words[1::2]) if fits else None))


def read_member(word):
    parts = word.partition(":")
    mode = parts[2] if parts[2] in MODES else None
    return (need_read(read_word("number", parts[0])), need_read(mode))


def read_calling(words):
    number = read_word("number", words[0]) if words else None
    return (need_read(number), tuple([read_member(word) for word in words[1:]]))


def read_deed(words):
    if words[0] == "begin":
        return ("begin",) + read_calling(words[1:])
    forms = need_read(DEEDS.get(words[0]))
    return (words[0],) + tuple(need_read(read_words(forms, words[1:])))


def read_scripts_and_firsts(rows):
    scripts = []
    firsts = []
    for words in rows:
        if words[0] == "FIRST":
            firsts.append(read_calling(words[1:]))
        elif firsts:
            raise NoText("behind the firsts there is nothing else")
        elif words == ["SCRIPT"]:
            scripts.append([])
        elif scripts:
            scripts[-1].append(read_deed(words))
        else:
            raise NoText("this is told ahead of all scripts")
    return (tuple(firsts), tuple([tuple(deeds) for deeds in scripts]))


def read_house(text):
    if not isinstance(text, str):
        raise NoText("this is no text")
    rows = [line.split(" ") for line in text.split("\n")]
    house = read_head(rows[0]) + read_scripts_and_firsts(rows[1:])
    need_house(house)
    return house
