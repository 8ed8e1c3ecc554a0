"""The plain outline: items beneath items, and the steps that change it. It knows of no hands and no clocks."""

from limb.errors import Beneath, Far, LimbError, NoItem, Taken
from limb.kinds import step_parts

# Where the fields of an item stand in its tuple (UP, place, text, done, whom, folded).
UP = 0
PLACE = 1
TEXT = 2

# The first field that a step of each of these words gives anew.
FIRST_CHANGED = {"move": 0, "write": 2, "mark": 3, "due": 4, "fold": 5}


class Plain:

    def __init__(self):
        self.held = {}
        self.away = {}

    def step(self, step):
        # All is looked at ahead of the first change, so what is refused changes nothing.
        self.check_names(step)
        self.check_bounds(step)
        word = step[0]
        if word == "put":
            self.bring_in(step[1], step[2], step[3], step[4])
        elif word == "part":
            self.part_item(step[1], step[2], step[3], step[4])
        elif word == "join":
            self.join_items(step[1], step[2])
        elif word == "gone":
            self.away[step[1]] = True
        else:
            self.change(step[1], FIRST_CHANGED[word], step[2:])

    def check_names(self, step):
        kinds = step_parts(step[0])
        for kind, name in zip(kinds, step[1:]):
            if kind == "new" and name in self.held:
                raise Taken("an item of the new one's name is there already")
        for kind, name in zip(kinds, step[1:]):
            if kind in ("item", "up") and name is not None and name not in self.held:
                raise NoItem(name)

    def check_bounds(self, step):
        if step[0] == "move" and self.at_or_beneath(step[2], step[1]):
            raise Beneath("the item would be beneath itself")
        if step[0] == "join" and self.at_or_beneath(step[1], step[2]):
            raise Beneath("what is beneath the other one would be beneath itself")
        if step[0] == "part" and step[2] > len(self.held[step[1]][TEXT]):
            raise Far("the text has fewer signs")

    def bring_in(self, name, up, place, text):
        self.held[name] = (up, place, text, False, None, False)

    def change(self, name, first, values):
        item = self.held[name]
        self.held[name] = item[:first] + values + item[first + len(values):]

    def part_item(self, name, at, new, place):
        item = self.held[name]
        # Nothing stands ahead of a number below 0, where Python would count from the end.
        ahead = max(at, 0)
        self.change(name, TEXT, (item[TEXT][:ahead],))
        self.bring_in(new, item[UP], place, item[TEXT][ahead:])

    def join_items(self, name, other):
        joined = self.held[name][TEXT] + self.held[other][TEXT]
        self.change(name, TEXT, (joined,))
        self.change(other, TEXT, ("",))
        for lower in list(self.held):
            if self.held[lower][UP] == other:
                self.change(lower, UP, (name,))

    def names(self):
        return list(self.held)

    def holds(self, name):
        return name in self.held

    def item(self, name):
        if name not in self.held:
            raise NoItem(name)
        return self.held[name]

    def beneath(self, one, other):
        return self.at_or_beneath(self.held[one][UP], other)

    def at_or_beneath(self, one, other):
        while one is not None and one != other:
            one = self.held[one][UP]
        return one is not None

    def is_gone(self, name):
        above = name
        while above is not None and above not in self.away:
            above = self.held[above][UP]
        return above is not None

    def below(self, up):
        return [name for name in self.sorted_names() if self.held[name][UP] == up and not self.is_gone(name)]

    def sorted_names(self):
        return sorted(self.held, key=lambda name: (self.held[name][PLACE], name))

    def rows(self):
        lower = self.lower_names()
        rows = []
        # A list of what is still to be told, and no call within a call: items may be many deep.
        ahead = [(0, each) for each in reversed(lower.get(None, []))]
        while len(ahead) > 0:
            following = ahead.pop()
            depth = following[0]
            name = following[1]
            rows.append((depth, name) + self.held[name][TEXT:])
            ahead.extend([(depth + 1, each) for each in reversed(lower.get(name, []))])
        return rows

    def lower_names(self):
        lower = {}
        for name in self.sorted_names():
            if name not in self.away:
                lower.setdefault(self.held[name][UP], []).append(name)
        return lower


def lets_by(steps):
    outline = Plain()
    for step in steps:
        try:
            outline.step(step)
        except LimbError:
            return False
    return True
