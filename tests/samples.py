"""What several tests hand in: odd things, deeds of each word, and deeds by chance from a told seed."""

import random

SIXTY = 10 ** 60 - 1

ODD_THINGS = [
    True, False, None, 0, 1, -1, "", "0", "none", "put", [], [1], (), (1,), (0, 1), {}, {1: 1}, 1.0, float("nan"),
    1j, b"none", {1}, frozenset(), object(), int, len, range(2), ValueError("1"),
]

# Each of the thirteen words, of one hand: the deed's name is (0, 5).
ONE_HAND = [
    (0, (5,), what) for what in [
        ("put", None, (0,), "ink"),
        ("put", (0, 4), (3, -1), "two words"),
        ("move", (0, 1), None, (0,)),
        ("move", (0, 1), (0, 2), (-7,)),
        ("write", (0, 1), "paper"),
        ("mark", (0, 1), True),
        ("mark", (0, 1), False),
        ("due", (0, 1), 0),
        ("due", (0, 1), None),
        ("fold", (0, 1), True),
        ("fold", (0, 1), False),
        ("part", (0, 1), 2, (1,)),
        ("join", (0, 1), (0, 2)),
        ("take", (0, 1)),
        ("back", (0, 1)),
        ("off", 1),
        ("on", 4),
        ("none",),
    ]
]

# Each of the thirteen words, of eight hands: the deed's name is (3, 5).
EIGHT_CLOCK = (2, 0, 1, 5, 0, 0, 0, 9)
EIGHT_HANDS = [
    (3, EIGHT_CLOCK, what) for what in [
        ("put", None, (0,), "ink"),
        ("put", (7, 9), (3, -1), "two words"),
        ("move", (0, 2), None, (0,)),
        ("move", (7, 1), (2, 1), (-7,)),
        ("write", (3, 4), "paper"),
        ("mark", (0, 1), True),
        ("mark", (0, 1), False),
        ("due", (0, 1), 7),
        ("due", (0, 1), None),
        ("fold", (7, 9), True),
        ("fold", (7, 9), False),
        ("part", (2, 1), 0, (1,)),
        ("join", (0, 1), (7, 2)),
        ("take", (0, 1)),
        ("back", (3, 4)),
        ("off", 1),
        ("on", 4),
        ("none",),
    ]
]


def replaced(values, at, value):
    return values[:at] + (value,) + values[at + 1:]


def none_deed(hand, clock):
    return (hand, clock, ("none",))


def by_one_hand(whats):
    """Deeds of one hand, numbered from 1 on."""
    return [(0, (number,), what) for number, what in enumerate(whats, start=1)]


def by_turns(whats):
    """Deeds of two hands, each of which has heard of all ahead of it; `whats` are tuples (hand, what)."""
    clock, deeds = [0, 0], []
    for hand, what in whats:
        clock[hand] += 1
        deeds.append((hand, tuple(clock), what))
    return deeds


def put(text="abc", up=None, place=(0,)):
    return ("put", up, place, text)


def names_in(clock):
    return [(hand, number) for hand, count in enumerate(clock) for number in range(1, count + 1)]


def some_what(chance, hand, clock, known):
    """What a hand might do whose new deed has this clock; it names what is among the known."""
    place = tuple(chance.randint(-2, 2) for each in range(chance.randint(1, 2)))
    text = "".join(chance.choice("ab ") for each in range(chance.randint(0, 4)))
    if not known or chance.random() < 0.3:
        return ("put", chance.choice(known + [None]), place, text)
    item, other = chance.choice(known), chance.choice(known + [None])
    whats = [
        ("move", item, other, place), ("write", item, text), ("mark", item, chance.random() < 0.5),
        ("due", item, chance.choice([None] + list(range(len(clock))))), ("fold", item, chance.random() < 0.5),
        ("part", item, chance.randint(0, 3), place), ("join", item, chance.choice(known)), ("take", item),
        ("back", item), ("none",),
    ]
    if clock[hand] > 1:
        number = chance.randint(1, clock[hand] - 1)
        whats += [("off", number), ("on", number), ("off", clock[hand] - 1)]
    return chance.choice(whats)


def some_deeds(seed, hands, count, busy=False):
    """Deeds of hands that hear of one another now and then; all of them are ready, in the order they were done.

    Busy hands keep to a few items, so that they often come upon one another."""
    chance = random.Random(seed)
    clocks = [(0,) * hands for each in range(hands)]
    deeds = []
    for each in range(count):
        hand = chance.randrange(hands)
        if chance.random() < 0.4:
            clocks[hand] = tuple(map(max, clocks[hand], chance.choice(clocks)))
        known = names_in(clocks[hand])
        if busy:
            known = [(other, clock[other]) for other, clock, what in deeds if what[0] in ("put", "part")]
            known = [name for name in known if name in names_in(clocks[hand])][:6]
        clocks[hand] = replaced(clocks[hand], hand, clocks[hand][hand] + 1)
        deeds.append((hand, clocks[hand], some_what(chance, hand, clocks[hand], known)))
    return deeds


def in_order(deeds):
    """[14], told apart from the program."""
    return sorted(deeds, key=lambda deed: (sum(deed[1]), deed[0]))


def kinds_of(thing):
    """The kinds of a thing and of all within it, so that True and 1, or a list and a tuple, are told apart."""
    if isinstance(thing, (tuple, list)):
        return (type(thing), [kinds_of(part) for part in thing])
    return type(thing)


def items_of(outline):
    return {name: outline.item(name) for name in outline.names()}


def all_of(outline):
    """All that an outline tells of itself."""
    return (
        outline.names(), items_of(outline), outline.rows(), [outline.below(up) for up in [None] + outline.names()],
        [outline.is_gone(name) for name in outline.names()],
    )


def check_lists(case, ask, handed):
    """The list handed in stays; what is asked of it is a new list each time, and stays whatever is done to others."""
    before = list(handed)
    one, other = ask(handed), ask(handed)
    case.assertEqual(handed, before)
    case.assertIs(type(one), list)
    case.assertEqual(one, other)
    case.assertIsNot(one, other)
    one.clear()
    case.assertEqual(handed, before)
    case.assertEqual(ask(handed), other)
    kept = list(other)
    handed.clear()
    case.assertEqual(other, kept)
    handed.extend(before)


def row(depth, number, text="", done=False, whom=None, folded=False):
    return (depth, (0, number), text, done, whom, folded)


def some_rows(chance, count):
    """Rows such as a plain outline tells."""
    rows, depth = [], -1
    for number in chance.sample(range(1, count + 1), count):
        depth = chance.randint(max(depth - 3, 0), depth + 1)
        rows.append(row(
            depth, number, "".join(chance.choice("abAB ") for each in range(chance.randint(0, 3))),
            chance.random() < 0.5, chance.choice([None, 0, 1, 2, 10]), chance.random() < 0.3,
        ))
    return rows


def after_changes(case, rows, changes):
    """The rows when all changes are done, each of which must be one that [34] tells, its number being there."""
    rows = list(rows)
    for change in changes:
        case.assertIn(change[0], ["cut", "put"])
        case.assertEqual(len(change), 2 if change[0] == "cut" else 3)
        case.assertIn(change[1], range(len(rows) + (change[0] == "put")))
        if change[0] == "cut":
            rows.pop(change[1])
        else:
            rows.insert(change[1], change[2])
    return rows


def fewest(old, new):
    """How many changes are as few as can be: all rows of both lists, less twice the most that stay in their order."""
    table = [[0] * (len(new) + 1) for each in range(len(old) + 1)]
    for at, one in enumerate(old):
        for to, other in enumerate(new):
            table[at + 1][to + 1] = table[at][to] + 1 if one == other else max(table[at][to + 1], table[at + 1][to])
    return len(old) + len(new) - 2 * table[-1][-1]
