"""Stores: they take deeds, in any order and however often, and tell them."""

from limb.clocks import raised, start_clock, tells
from limb.deeds import is_deed, name_of
from limb.errors import LimbError, NoDeed, Twin
from limb.orders import ready_of


class Store:

    def __init__(self, hands):
        self.hands = hands
        self.deeds = {}

    def hear(self, deed):
        if not is_deed(deed, self.hands):
            raise NoDeed("this is no deed of the store's hands")
        name = name_of(deed)
        if name not in self.deeds:
            self.deeds[name] = deed
            return True
        if self.deeds[name] != deed:
            raise Twin(name)
        return False

    def ready(self):
        return ready_of(list(self.deeds.values()))

    def waiting(self):
        ready = [name_of(deed) for deed in self.ready()]
        return sorted([name for name in self.deeds if name not in ready])

    def clock(self):
        clock = start_clock(self.hands)
        for deed in self.ready():
            clock = raised(clock, deed[0])
        return clock

    def told(self, clock):
        deeds = self.ready() + [self.deeds[name] for name in self.waiting()]
        return [deed for deed in deeds if not tells(clock, name_of(deed))]


def meet(one, other):
    # Both are asked ahead of the first taking, so neither is told of what it has just told itself.
    for_one = other.told(one.clock())
    for_other = one.told(other.clock())
    return (count_new(one, for_one), count_new(other, for_other))


def count_new(store, deeds):
    new = 0
    for deed in deeds:
        if takes_as_new(store, deed):
            new += 1
    return new


def takes_as_new(store, deed):
    try:
        return store.hear(deed)
    except LimbError:
        return False
