"""The words of deeds and of steps, and of what kind each part behind a word is."""

DEED_PARTS = {
    "put": ("up", "place", "text"),
    "move": ("item", "up", "place"),
    "write": ("item", "text"),
    "mark": ("item", "truth"),
    "due": ("item", "whom"),
    "fold": ("item", "truth"),
    "part": ("item", "at", "place"),
    "join": ("item", "item"),
    "take": ("item",),
    "back": ("item",),
    "off": ("number",),
    "on": ("number",),
    "none": (),
}

STEP_PARTS = {
    "put": ("new", "up", "place", "text"),
    "move": ("item", "up", "place"),
    "write": ("item", "text"),
    "mark": ("item", "truth"),
    "due": ("item", "whom"),
    "fold": ("item", "truth"),
    "part": ("item", "at", "new", "place"),
    "join": ("item", "item"),
    "gone": ("item",),
}


def is_deed_word(thing):
    return isinstance(thing, str) and thing in DEED_PARTS


def deed_parts(word):
    return DEED_PARTS[word]


def step_parts(word):
    return STEP_PARTS[word]
