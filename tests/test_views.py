import random
import unittest

from limb.answers import asked
from limb.errors import NoQuestion
from limb.questions import read_question
from limb.views import View
from samples import after_changes, fewest, row, some_rows

ROWS = [row(0, 1, "ink", True), row(1, 2, "pot"), row(0, 3, "pen", True, 1), row(0, 4, "paper")]


class TestView(unittest.TestCase):

    def check_follow(self, view, text, rows):
        """It keeps what the question tells of the rows, and the changes lead there, as few as can be."""
        before = view.rows()
        handed = list(rows)
        changes = view.follow(handed)
        self.assertEqual(handed, rows)
        self.assertIs(type(changes), list)
        self.assertEqual(view.rows(), asked(read_question(text), rows))
        self.assertEqual(after_changes(self, before, changes), view.rows())
        self.assertEqual(len(changes), fewest(before, view.rows()))
        self.assertEqual(view.follow(rows), [])

    def test_no_question(self):
        for text, at in [("", 0), ("all ", 1), ("all by", 2), ("not some", 1), ("( all", 2), ("all back", 1)]:
            with self.assertRaises(NoQuestion) as caught:
                View(text)
            self.assertEqual(caught.exception.at, at)

    def test_no_rows_at_first(self):
        for text in ["all", "done by text back"]:
            self.assertEqual(View(text).rows(), [])
            self.assertEqual(View(text).follow([]), [])

    def test_follow(self):
        view = View("done")
        self.check_follow(view, "done", ROWS)
        self.assertEqual(view.rows(), [ROWS[0], ROWS[2]])
        self.check_follow(view, "done", ROWS[2:])
        self.assertEqual(view.rows(), [ROWS[2]])
        self.check_follow(view, "done", ROWS)
        self.check_follow(view, "done", [])
        self.assertEqual(view.rows(), [])

    def test_what_is_told_of_the_first(self):
        view = View("all")
        self.assertEqual(view.follow(ROWS[:1]), [("put", 0, ROWS[0])])
        self.assertEqual(view.follow(ROWS[:2]), [("put", 1, ROWS[1])])
        self.assertEqual(view.follow(ROWS[:1]), [("cut", 1)])

    def test_a_row_that_fits_no_more(self):
        view = View("free by text")
        self.check_follow(view, "free by text", ROWS)
        self.check_follow(view, "free by text", [ROWS[0][:4] + (1, False)] + ROWS[1:])

    def test_in_the_questions_order(self):
        view = View("all by text back")
        self.check_follow(view, "all by text back", ROWS)
        self.assertEqual([each[2] for each in view.rows()], ["pot", "pen", "paper", "ink"])

    def test_lists_are_the_askers_own(self):
        view = View("all")
        handed = list(ROWS)
        changes = view.follow(handed)
        handed.clear()
        changes.clear()
        self.assertEqual(view.rows(), ROWS)
        told = view.rows()
        told.clear()
        self.assertEqual(view.rows(), ROWS)
        self.assertEqual(view.follow(ROWS), [])
        kept, changes = view.rows(), view.follow(ROWS[:1])
        view.follow([])
        self.assertEqual((kept, len(changes)), (ROWS, 3))

    def test_two_views_keep_to_themselves(self):
        one, other = View("all"), View("all")
        one.follow(ROWS)
        self.assertEqual(other.rows(), [])
        self.assertEqual(len(other.follow(ROWS)), 4)

    def test_by_chance(self):
        for seed, text in enumerate([
            "all", "done", "not folded and seen", "leaf by text", "free or due 1 by due back", "all by place back",
            "depth 1 by size", "beneath 0.3",
        ]):
            chance = random.Random(seed)
            view, rows = View(text), []
            for each in range(12):
                rows = [old for old in rows if old[0] == 0 and chance.random() < 0.8]
                taken = [old[1] for old in rows]
                rows += [new for new in some_rows(chance, 15) if new[1] not in taken and new[0] == 0]
                self.check_follow(view, text, rows)
                self.check_follow(view, text, some_rows(chance, chance.randint(0, 25)))

    def test_three_hundred_rows(self):
        view = View("all by text")
        rows = some_rows(random.Random(111), 300)
        self.check_follow(view, "all by text", rows)
        self.check_follow(view, "all by text", rows[:100])


if __name__ == "__main__":
    unittest.main()
