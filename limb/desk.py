"""The desk: several hands, and the rows that it is told."""

from limb.answers import asked
from limb.deeds import name_of
from limb.hands import Hand
from limb.lines import read_row, written_change, written_name, written_report, written_row
from limb.questions import read_question
from limb.texts import written_numbers
from limb.views import View


class Desk:

    def __init__(self, hands):
        self.keepers = [Hand(hands, me) for me in range(hands)]
        self.views = {}

    def say(self, row):
        # All of the row is read ahead of the first deed, so a row that is none changes nothing.
        told = read_row(row, len(self.keepers))
        word = told[0]
        keeper = self.keepers[told[1]]
        if word == "meet":
            return [written_numbers(keeper.meet_with(self.keepers[told[2]]), " ")]
        if word == "show":
            return written_rows(keeper.outline().rows())
        if word == "ask":
            return written_rows(asked(read_question(told[2]), keeper.outline().rows()))
        if word == "report":
            return [written_report(each) for each in keeper.report()]
        if word == "watch":
            return self.watch(told[1], told[2])
        if word == "news":
            return self.news(told[1])
        return [written_deed(done_by(keeper, word, told[2:]))]

    def watch(self, number, text):
        view = View(text)
        view.follow(self.keepers[number].outline().rows())
        self.views[number] = view
        return written_rows(view.rows())

    def news(self, number):
        if number not in self.views:
            return []
        changes = self.views[number].follow(self.keepers[number].outline().rows())
        return [written_change(change) for change in changes]


def done_by(keeper, word, parts):
    if word == "undo":
        return keeper.undo()
    if word == "redo":
        return keeper.redo()
    return keeper.do(what_of(keeper, word, parts))


def what_of(keeper, word, parts):
    # A row says behind which item, a deed at which place.
    if word == "put":
        return (word, parts[0], keeper.place(parts[0], parts[1]), parts[2])
    if word == "move":
        return (word, parts[0], parts[1], keeper.place(parts[1], parts[2]))
    if word == "part":
        up = keeper.outline().item(parts[0])[0]
        return (word, parts[0], parts[1], keeper.place(up, parts[0]))
    return (word,) + parts


def written_rows(rows):
    return [written_row(row) for row in rows]


def written_deed(deed):
    return "nothing" if deed is None else written_name(name_of(deed))
