"""Places: where an item stands among those right beneath the same UP."""

from limb.clocks import is_number
from limb.errors import NoPlace

MOST_NUMBERS = 64


def is_place(thing):
    if not isinstance(thing, tuple) or not 1 <= len(thing) <= MOST_NUMBERS:
        return False
    return all([is_number(number) for number in thing])


def between(low, high):
    if low is None or high is None:
        return at_open_end(low, high)
    # Python's own order of tuples is that of places: a beginning comes first.
    if not low < high:
        raise NoPlace("the low place does not come before the high one")
    place = inside(low, high)
    if len(place) > MOST_NUMBERS:
        raise NoPlace("the place between would have too many numbers")
    return place


def at_open_end(low, high):
    if low is not None:
        return (low[0] + 1,)
    if high is not None:
        return (high[0] - 1,)
    return (0,)


def inside(low, high):
    shared = count_shared(low, high)
    if shared == len(low):
        return low + (high[shared] - 1,)
    less = low[shared]
    greater = high[shared]
    if greater > less + 1:
        return low[:shared] + ((less + greater) // 2,)
    # No number lies between the two, so the place must go on from low's own.
    if len(low) > shared + 1:
        return low[:shared + 1] + (low[shared + 1] + 1,)
    return low + (0,)


def count_shared(low, high):
    shared = 0
    while shared < min(len(low), len(high)) and low[shared] == high[shared]:
        shared += 1
    return shared
