"""Deeds written as texts, and read again."""

from limb.deeds import is_deed
from limb.errors import NoText
from limb.kinds import deed_parts, is_deed_word
from limb.texts import is_number_word, is_truth_word, parted, written_numbers


def written(deed):
    what = deed[2]
    words = [str(deed[0]), written_numbers(deed[1], ","), what[0]]
    for kind, part in zip(deed_parts(what[0]), what[1:]):
        words.append(written_part(kind, part))
    return " ".join(words)


def written_part(kind, part):
    if kind == "text":
        return part
    if kind == "truth":
        return "yes" if part else "no"
    if part is None:
        return "top" if kind == "up" else "nobody"
    if kind == "place":
        return written_numbers(part, "/")
    if kind == "item" or kind == "up":
        return written_numbers(part, ".")
    return str(part)


def read(text, hands):
    words = words_in(text)
    hand = read_number(words[0])
    clock = read_numbers(words[1], ",")
    parts = [read_part(kind, word) for kind, word in zip(deed_parts(words[2]), words[3:])]
    deed = (hand, clock, (words[2],) + tuple(parts))
    if not is_deed(deed, hands):
        raise NoText("this would be no deed")
    return deed


def words_in(text):
    words = text.split(" ")
    if len(words) < 3 or not is_deed_word(words[2]):
        raise NoText("no deed is written so")
    kinds = ("hand", "clock", "word") + deed_parts(words[2])
    words = parted(text, kinds)
    if len(words) != len(kinds):
        raise NoText("something is missing behind the word, or too much stands there")
    return words


def read_part(kind, word):
    if kind == "text":
        return word
    if kind == "truth":
        return read_truth(word)
    if kind == "place":
        return read_numbers(word, "/")
    if kind == "item":
        return read_numbers(word, ".")
    if kind == "up":
        return None if word == "top" else read_numbers(word, ".")
    if kind == "whom" and word == "nobody":
        return None
    return read_number(word)


def read_truth(word):
    if not is_truth_word(word):
        raise NoText("neither yes nor no")
    return word == "yes"


def read_numbers(word, sign):
    return tuple([read_number(number) for number in word.split(sign)])


def read_number(word):
    if not is_number_word(word):
        raise NoText("no whole number is written so")
    return int(word)
