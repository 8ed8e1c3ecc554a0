"""Which deed has heard of which, which deeds are ready, and their order."""

from limb.clocks import tells, within
from limb.deeds import name_of


def hears(deed, name):
    return name != name_of(deed) and tells(deed[1], name)


def apart(one, other):
    if name_of(one) == name_of(other):
        return False
    return not hears(one, name_of(other)) and not hears(other, name_of(one))


def ready_of(deeds):
    # A deed's clock has a greater sum than those that it asks for, unless they tell of one another in a ring,
    # so one walk in this order meets whatever can be ready behind all that it asks for.
    ready = {}
    for deed in sorted(deeds, key=lambda each: (sum(each[1]), each[0])):
        if all([is_answered(deed, name, ready) for name in asked_by(deed)]):
            ready[name_of(deed)] = deed
    return list(ready.values())


def asked_by(deed):
    names = []
    for hand, number in enumerate(deed[1]):
        last = number - 1 if hand == deed[0] else number
        if last > 0:
            names.append((hand, last))
    return names


def is_answered(deed, name, ready):
    return name in ready and within(ready[name][1], deed[1])
