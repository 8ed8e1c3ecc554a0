"""Names of deeds, and clocks: how many deeds of each hand are known of."""


def is_number(thing):
    # Python counts a truth among its ints; the outline doesn't.
    return isinstance(thing, int) and not isinstance(thing, bool)


def is_whole(thing, low):
    return is_number(thing) and thing >= low


def is_name(thing, hands):
    if not isinstance(thing, tuple) or len(thing) != 2:
        return False
    return is_whole(thing[0], 0) and thing[0] < hands and is_whole(thing[1], 1)


def is_clock(thing, hands):
    if not isinstance(thing, tuple) or len(thing) != hands:
        return False
    return all([is_whole(number, 0) for number in thing])


def start_clock(hands):
    return (0,) * hands


def within(one, other):
    return all([mine <= yours for mine, yours in zip(one, other)])


def met_clock(one, other):
    return tuple([max(mine, yours) for mine, yours in zip(one, other)])


def raised(clock, hand):
    return clock[:hand] + (clock[hand] + 1,) + clock[hand + 1:]


def tells(clock, name):
    return clock[name[0]] >= name[1]
