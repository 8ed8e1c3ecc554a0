"""Texts: which signs they are of, and which of them stand for whole numbers, for items and for truths."""

FIRST_SIGN = 32
LAST_SIGN = 126
PERCENT_SIGN = 37
FIGURES = "0123456789"
MOST_FIGURES = 60


def is_text(thing):
    return isinstance(thing, str) and all([is_sign(sign) for sign in thing])


def is_sign(sign):
    return FIRST_SIGN <= ord(sign) <= LAST_SIGN and ord(sign) != PERCENT_SIGN


def is_figures(text):
    # Python's own reading of numbers lets by more than figures, so each sign is looked at.
    if not 1 <= len(text) <= MOST_FIGURES or not all([sign in FIGURES for sign in text]):
        return False
    return text == "0" or not text.startswith("0")


def is_number_word(word):
    figures = word[1:] if word.startswith("-") else word
    return is_figures(figures) and word != "-0"


def is_truth_word(word):
    return word in ("yes", "no")


def is_item_word(word):
    halves = word.split(".")
    return len(halves) == 2 and is_figures(halves[0]) and is_figures(halves[1]) and halves[1] != "0"


def item_in(word):
    halves = word.split(".")
    return (int(halves[0]), int(halves[1]))


def parted(text, kinds):
    # A part of the kind `text` stands last and has its own blanks, so it is not to be parted.
    if kinds[-1] == "text":
        return text.split(" ", len(kinds) - 1)
    return text.split(" ")


def written_numbers(numbers, sign):
    return sign.join([str(number) for number in numbers])
