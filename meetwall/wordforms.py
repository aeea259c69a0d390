"""Word forms: what the words of texts and rows say, each read by the form that is asked of it."""

from meetwall.houses import is_letters, is_word

MOST_FIGURES = 30


def is_number(word):
    if not 1 <= len(word) <= MOST_FIGURES or (word.startswith("0") and word != "0"):
        return False
    return all(["0" <= sign <= "9" for sign in word])


def read_hand(word):
    parts = word.split(".")
    return tuple([int(part) for part in parts]) if all([is_number(part) for part in parts]) else None


# The forms are number, hand, letters (as many as there are) and name (a word of a house); None for what is none such.
def read_word(form, word):
    if form == "number":
        return int(word) if is_number(word) else None
    if form == "hand":
        return read_hand(word)
    fits = is_word(word) if form == "name" else is_letters(word)
    return word if fits else None


# None where there is another number of words, or one of them isn't of its form.
def read_words(forms, words):
    if len(forms) != len(words):
        return None
    values = [read_word(form, word) for form, word in zip(forms, words, strict=True)]
    return None if None in values else values
