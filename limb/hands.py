"""A hand: it keeps a store, does deeds of its own, and turns them off and on again."""

from limb.clocks import raised
from limb.deeds import name_of
from limb.errors import NoItem
from limb.folds import counting, is_off, last_turns
from limb.places import between
from limb.stores import Store, meet
from limb.takes import outline_of, report_of


class Hand:

    def __init__(self, hands, me):
        self.store = Store(hands)
        self.me = me

    def do(self, what):
        deed = (self.me, raised(self.store.clock(), self.me), what)
        # All that its clock tells of is ready, so it is never like one that waits: the store takes it or refuses it.
        self.store.hear(deed)
        return deed

    def hear(self, deed):
        return self.store.hear(deed)

    def told(self, clock):
        return self.store.told(clock)

    def clock(self):
        return self.store.clock()

    def ready(self):
        return self.store.ready()

    def meet_with(self, other):
        return meet(self.store, other.store)

    def undo(self):
        number = last_undone(own_deeds(counting(self.ready()), self.me))
        return None if number is None else self.do(("off", number))

    def redo(self):
        ready = self.ready()
        number = last_redone(own_deeds(ready, self.me), last_turns(ready))
        return None if number is None else self.do(("on", number))

    def place(self, up, after):
        outline = self.outline()
        if up is not None and not is_shown(outline, up):
            raise NoItem(up)
        lower = outline.below(up)
        if after is not None and after not in lower:
            raise NoItem(after)
        places = [outline.item(name)[1] for name in lower]
        if after is None:
            return between(None, min(places, default=None))
        low = outline.item(after)[1]
        return between(low, min([place for place in places if place > low], default=None))

    def outline(self):
        return outline_of(self.ready())

    def report(self):
        return report_of(self.ready())


def own_deeds(deeds, me):
    return [deed for deed in deeds if deed[0] == me]


def last_undone(deeds):
    numbers = [name_of(deed)[1] for deed in deeds if deed[2][0] not in ("off", "on", "none")]
    return max(numbers, default=None)


def last_redone(deeds, turns):
    # An off deed of a greater number is a later one: the deed that was turned off last is turned on first.
    names = [name_of(deed) for deed in deeds if is_off(deed, turns)]
    last = max(names, key=lambda name: name_of(turns[name]), default=None)
    return None if last is None else last[1]


def is_shown(outline, name):
    return outline.holds(name) and not outline.is_gone(name)
