"""Lines: the rows that a desk is told, read, and what it answers, written."""

from limb.answers import DEPTH, DONE, FOLDED, NAME, TEXT, WHOM
from limb.errors import NoRow
from limb.texts import is_figures, is_item_word, is_number_word, is_text, is_truth_word
from limb.texts import item_in, parted, written_numbers

# Of what kind each part of a row is; where the hand stands ahead of the word, the hand does something.
FORMS = {
    "put": ("hand", "word", "up", "after", "text"),
    "move": ("hand", "word", "item", "up", "after"),
    "part": ("hand", "word", "item", "at"),
    "write": ("hand", "word", "item", "text"),
    "mark": ("hand", "word", "item", "truth"),
    "due": ("hand", "word", "item", "whom"),
    "fold": ("hand", "word", "item", "truth"),
    "join": ("hand", "word", "item", "item"),
    "take": ("hand", "word", "item"),
    "back": ("hand", "word", "item"),
    "undo": ("hand", "word"),
    "redo": ("hand", "word"),
    "meet": ("word", "hand", "hand"),
    "show": ("word", "hand"),
    "ask": ("word", "hand", "text"),
    "report": ("word", "hand"),
    "watch": ("word", "hand", "text"),
    "news": ("word", "hand"),
}

# What is written for None, by the kind of the part.
NONE_WORDS = {"up": "top", "after": "first", "whom": "nobody"}


def read_row(row, hands):
    # The word stands first in what is read, the hand behind it, whichever comes first in the row.
    if not is_text(row):
        raise NoRow("this is no text")
    kinds = form_of(row.split(" "))
    parts = parted(row, kinds)
    if len(parts) != len(kinds):
        raise NoRow("something is missing in the row, or too much stands there")
    word = parts[kinds.index("word")]
    return (word,) + tuple([read_part(kind, part, hands) for kind, part in zip(kinds, parts) if kind != "word"])


def form_of(words):
    for at, word in enumerate(words[:2]):
        if word in FORMS and FORMS[word][at] == "word":
            return FORMS[word]
    raise NoRow("no row has such a word")


def read_part(kind, part, hands):
    if kind == "text":
        return part
    if kind == "truth" and is_truth_word(part):
        return part == "yes"
    if kind in NONE_WORDS and part == NONE_WORDS[kind]:
        return None
    if kind in ("hand", "whom") and is_figures(part) and int(part) < hands:
        return int(part)
    if kind == "at" and is_number_word(part):
        return int(part)
    if kind in ("item", "up", "after") and is_item_word(part):
        return item_in(part)
    raise NoRow("no such part stands there")


def written_name(name):
    return written_numbers(name, ".")


def written_row(row):
    whom = "-" if row[WHOM] is None else str(row[WHOM])
    fields = [written_name(row[NAME]), "x" if row[DONE] else "-", whom, "+" if row[FOLDED] else "-", row[TEXT]]
    return "  " * row[DEPTH] + " ".join(fields)


def written_change(change):
    words = [change[0], str(change[1])]
    if change[0] == "put":
        words.append(written_row(change[2]))
    return " ".join(words)


def written_report(told):
    words = [written_name(told[0]), told[1]]
    if told[2] is not None:
        words.append(written_name(told[2]))
    return " ".join(words)
