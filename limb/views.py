"""Views: they keep what a question tells of the rows that they follow."""

from limb.answers import asked
from limb.changes import changes_of
from limb.questions import read_question


class View:

    def __init__(self, text):
        self.question = read_question(text)
        self.kept = []

    def follow(self, rows):
        told = asked(self.question, rows)
        changes = changes_of(self.kept, told)
        self.kept = told
        return changes

    def rows(self):
        return list(self.kept)
