"""Questions: texts that are read to a condition and a key, and written again."""

from limb.errors import NoQuestion
from limb.texts import is_figures, is_item_word, item_in, written_numbers

MOST_DEEP = 12
KEYS = ("place", "text", "size", "depth", "due")

# Of what kind the word is that follows each of these.
FOLLOWING = {
    "all": "nothing",
    "done": "nothing",
    "folded": "nothing",
    "free": "nothing",
    "leaf": "nothing",
    "seen": "nothing",
    "due": "number",
    "depth": "number",
    "beneath": "item",
    "says": "word",
}


class Reader:

    def __init__(self, words):
        self.words = words
        self.spot = 0

    def is_through(self):
        return self.spot == len(self.words)

    def here(self):
        # A word without signs stands nowhere in a question, so behind the last word it is as good as none.
        return "" if self.is_through() else self.words[self.spot]

    def go_on(self, good):
        # Whoever reads stands at the first word that may be wrong, so a refusal knows its number.
        if not good:
            raise NoQuestion(self.spot)
        self.spot += 1

    def passes(self, word):
        found = self.here() == word
        if found:
            self.go_on(True)
        return found


def read_question(text):
    reader = Reader(text.split(" "))
    condition = read_some(reader, 0)
    key = "place"
    back = False
    if reader.passes("by"):
        key = reader.here()
        reader.go_on(key in KEYS)
        back = reader.passes("back")
    if not reader.is_through():
        raise NoQuestion(reader.spot)
    return (condition, key, back)


def read_some(reader, depth):
    parts = [read_each(reader, depth)]
    while reader.passes("or"):
        parts.append(read_each(reader, depth))
    return alone_or("or", parts)


def read_each(reader, depth):
    parts = [read_one(reader, depth)]
    while reader.passes("and"):
        parts.append(read_one(reader, depth))
    return alone_or("and", parts)


def alone_or(word, parts):
    return parts[0] if len(parts) == 1 else (word, tuple(parts))


def read_one(reader, depth):
    # Where no more may stand within one another, these two are words like any that no condition begins with.
    if depth < MOST_DEEP and reader.passes("not"):
        return ("not", read_one(reader, depth + 1))
    if depth < MOST_DEEP and reader.passes("("):
        condition = read_some(reader, depth + 1)
        reader.go_on(reader.here() == ")")
        return condition
    return read_plain(reader)


def read_plain(reader):
    word = reader.here()
    reader.go_on(word in FOLLOWING)
    kind = FOLLOWING[word]
    if kind == "nothing":
        return (word,)
    following = reader.here()
    reader.go_on(may_follow(kind, following))
    return (word, read_following(kind, following))


def may_follow(kind, word):
    if kind == "number":
        return is_figures(word)
    if kind == "item":
        return is_item_word(word)
    return word != ""


def read_following(kind, word):
    if kind == "number":
        return int(word)
    if kind == "item":
        return item_in(word)
    return word


def written_question(question):
    words = [written_condition(question[0])]
    if question[1] != "place" or question[2]:
        words.extend(["by", question[1]])
    if question[2]:
        words.append("back")
    return " ".join(words)


def written_condition(condition):
    word = condition[0]
    if word == "or" or word == "and":
        return f" {word} ".join([written_within(part, word) for part in condition[1]])
    if word == "not":
        return "not " + written_within(condition[1], word)
    kind = FOLLOWING[word]
    if kind == "nothing":
        return word
    if kind == "item":
        return word + " " + written_numbers(condition[1], ".")
    return word + " " + str(condition[1])


def written_within(condition, around):
    text = written_condition(condition)
    # An `and` binds closer than an `or`, and a `not` closer than both.
    if condition[0] == "or" or condition[0] == "and" and around != "or":
        return "( " + text + " )"
    return text
