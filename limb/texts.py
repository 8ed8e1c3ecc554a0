"""Texts: which signs they are of, and which of them stand for whole numbers."""

FIRST_SIGN = 32
LAST_SIGN = 126
PERCENT_SIGN = 37
FIGURES = "0123456789"
MOST_FIGURES = 60


def is_text(thing):
    return isinstance(thing, str) and all([is_sign(sign) for sign in thing])


def is_sign(sign):
    return FIRST_SIGN <= ord(sign) <= LAST_SIGN and ord(sign) != PERCENT_SIGN


def is_figures(text):
    # Python's own reading of numbers lets by more than figures, so each sign is looked at.
    if not 1 <= len(text) <= MOST_FIGURES or not all([sign in FIGURES for sign in text]):
        return False
    return text == "0" or not text.startswith("0")
