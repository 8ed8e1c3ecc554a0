"""Deeds: who did it, what was known of then, and what it does."""

from limb.clocks import is_clock, is_name, is_whole, tells
from limb.kinds import deed_parts, is_deed_word
from limb.places import is_place
from limb.texts import is_text

MOST_SIGNS = 60


def name_of(deed):
    return (deed[0], deed[1][deed[0]])


def is_deed(thing, hands):
    if not isinstance(thing, tuple) or len(thing) != 3:
        return False
    if not is_hand(thing[0], hands) or not is_clock(thing[1], hands):
        return False
    return thing[1][thing[0]] >= 1 and is_what(thing[2], thing[0], thing[1])


def is_hand(thing, hands):
    return is_whole(thing, 0) and thing < hands


def is_what(thing, hand, clock):
    if not isinstance(thing, tuple) or len(thing) == 0 or not is_deed_word(thing[0]):
        return False
    kinds = deed_parts(thing[0])
    if len(thing) != len(kinds) + 1:
        return False
    return all([is_part(kind, part, hand, clock) for kind, part in zip(kinds, thing[1:])])


def is_part(kind, part, hand, clock):
    if kind == "item":
        return is_known_item(part, hand, clock)
    if kind == "up":
        return part is None or is_known_item(part, hand, clock)
    if kind == "place":
        return is_place(part)
    if kind == "text":
        return is_text(part) and len(part) <= MOST_SIGNS
    if kind == "truth":
        return isinstance(part, bool)
    if kind == "whom":
        return part is None or is_hand(part, len(clock))
    if kind == "at":
        return is_whole(part, 0)
    return is_whole(part, 1) and part < clock[hand]


def is_known_item(thing, hand, clock):
    return is_name(thing, len(clock)) and tells(clock, thing) and thing != (hand, clock[hand])
