import random
import unittest

from limb.answers import asked, fitting
from limb.questions import read_question
from samples import SIXTY, check_lists, row, some_rows

ALL, DONE, FOLDED, FREE, LEAF, SEEN = ("all",), ("done",), ("folded",), ("free",), ("leaf",), ("seen",)

ROWS = [
    row(0, 1, "ink", True, 1),
    row(1, 2, "black ink", False, None, True),
    row(2, 3, "a pot", True, 0),
    row(3, 4, "of ink", False, 2, True),
    row(4, 5, "", False, None),
    row(2, 6, "a pen", False, 1),
    row(1, 7, "Ink", False, 0),
    row(0, 8, "paper", False, None, False),
    row(0, 9, "pen", True, 10, True),
    row(1, 10, "pens", False, 2),
]


class TestFitting(unittest.TestCase):

    def check(self, condition, numbers, rows=ROWS):
        """The rows of these numbers fit, no others."""
        with self.subTest(condition=condition):
            handed = list(rows)
            told = fitting(condition, handed)
            self.assertEqual(handed, rows)
            self.assertEqual(told, [each[1][1] in numbers for each in rows])
            self.assertEqual({type(truth) for truth in told}, {bool} if rows else set())
            self.assertEqual(fitting(("not", condition), rows), [not truth for truth in told])

    def test_all(self):
        self.check(ALL, range(11))

    def test_fields(self):
        self.check(DONE, [1, 3, 9])
        self.check(FOLDED, [2, 4, 9])
        self.check(FREE, [2, 5, 8])

    def test_due(self):
        self.check(("due", 0), [3, 7])
        self.check(("due", 1), [1, 6])
        self.check(("due", 2), [4, 10])
        self.check(("due", 10), [9])
        self.check(("due", 3), [])
        self.check(("due", SIXTY), [])

    def test_depth(self):
        self.check(("depth", 0), [1, 8, 9])
        self.check(("depth", 1), [1, 2, 7, 8, 9, 10])
        self.check(("depth", 3), [1, 2, 3, 4, 6, 7, 8, 9, 10])
        self.check(("depth", 4), range(11))
        self.check(("depth", SIXTY), range(11))

    def test_says(self):
        self.check(("says", "ink"), [1, 2, 4])
        self.check(("says", "Ink"), [7])
        self.check(("says", "pen"), [6, 9, 10])
        self.check(("says", "pe"), [6, 8, 9, 10])
        self.check(("says", "pns"), [])
        self.check(("says", "nep"), [])
        self.check(("says", "paper"), [8])
        self.check(("says", "papers"), [])
        self.check(("says", "k"), [1, 2, 4, 7])
        self.check(("says", "."), [])

    def test_leaf(self):
        self.check(LEAF, [5, 6, 7, 8, 10])
        self.check(LEAF, [1], [row(0, 1)])
        self.check(LEAF, [1, 2], [row(0, 1), row(0, 2)])
        self.check(LEAF, [2], [row(0, 1), row(1, 2)])
        self.check(LEAF, [2, 3], [row(0, 1), row(1, 2), row(0, 3)])

    def test_beneath(self):
        self.check(("beneath", (0, 1)), [2, 3, 4, 5, 6, 7])
        self.check(("beneath", (0, 2)), [3, 4, 5, 6])
        self.check(("beneath", (0, 3)), [4, 5])
        self.check(("beneath", (0, 4)), [5])
        self.check(("beneath", (0, 5)), [])
        self.check(("beneath", (0, 6)), [])
        self.check(("beneath", (0, 8)), [])
        self.check(("beneath", (0, 9)), [10])
        self.check(("beneath", (0, 10)), [])

    def test_beneath_what_is_not_among_the_rows(self):
        for name in [(1, 1), (0, 11), (SIXTY, SIXTY), (1, 0)]:
            self.check(("beneath", name), [])

    def test_beneath_ends_for_good(self):
        rows = [row(0, 1), row(1, 2), row(0, 3), row(1, 4), row(2, 5)]
        self.check(("beneath", (0, 1)), [2], rows)
        self.check(("beneath", (0, 2)), [], rows)
        self.check(("beneath", (0, 4)), [5], rows)

    def test_seen(self):
        self.check(SEEN, [1, 2, 7, 8, 9])

    def test_seen_beneath_a_folded_row_and_two_above(self):
        rows = [
            row(0, 1, folded=True), row(1, 2), row(2, 3), row(1, 4, folded=True), row(2, 5), row(0, 6), row(1, 7),
            row(2, 8, folded=True), row(3, 9), row(4, 10), row(2, 11), row(0, 12, folded=True), row(0, 13),
        ]
        self.check(SEEN, [1, 6, 7, 8, 11, 12, 13], rows)

    def test_a_folded_row_beneath_a_folded_one(self):
        rows = [row(0, 1, folded=True), row(1, 2, folded=True), row(2, 3), row(1, 4), row(0, 5), row(1, 6)]
        self.check(SEEN, [1, 5, 6], rows)

    def test_and_or_not(self):
        self.check(("and", (DONE, ("says", "ink"))), [1])
        self.check(("and", (DONE, FREE)), [])
        self.check(("and", (ALL, DONE, ("depth", 1))), [1, 9])
        self.check(("or", (DONE, FREE)), [1, 2, 3, 5, 8, 9])
        self.check(("or", (("due", 3), ("due", 2))), [4, 10])
        self.check(("or", (("due", 0), ("due", 1), ("due", 2))), [1, 3, 4, 6, 7, 10])
        self.check(("not", ("not", DONE)), [1, 3, 9])

    def test_within_one_another(self):
        self.check(("and", (("or", (DONE, FREE)), ("not", ("depth", 0)))), [2, 3, 5])
        self.check(("or", (("and", (DONE, FREE)), ("and", (LEAF, ("due", 1))))), [6])
        self.check(("not", ("or", (DONE, ("and", (FREE, LEAF)), ("beneath", (0, 2))))), [2, 7, 10])
        self.check(("and", (("and", (ALL, LEAF)), ("not", ("not", SEEN)))), [7, 8])

    def test_forty_within_one_another(self):
        condition = DONE
        for each in range(42):
            condition = ("or", (("due", 99), condition)) if each % 2 else ("and", (condition, ALL))
        self.check(condition, [1, 3, 9])

    def test_no_rows(self):
        for condition in [ALL, DONE, LEAF, SEEN, ("beneath", (0, 1)), ("or", (ALL, DONE)), ("and", (ALL, DONE))]:
            self.check(condition, [], [])

    def test_lists_told_are_new(self):
        for condition in [ALL, DONE, LEAF, SEEN, ("or", (DONE, FREE)), ("not", DONE), ("beneath", (0, 1))]:
            check_lists(self, lambda rows: fitting(condition, rows), list(ROWS))


class TestAsked(unittest.TestCase):

    def check(self, question, numbers, rows=ROWS):
        with self.subTest(question=question):
            handed = list(rows)
            told = asked(read_question(question), handed)
            self.assertEqual(handed, rows)
            self.assertIs(type(told), list)
            self.assertEqual([each[1][1] for each in told], numbers)
            for each in told:
                self.assertIn(each, rows)

    def test_in_their_order(self):
        self.check("all", list(range(1, 11)))
        self.check("done", [1, 3, 9])
        self.check("done and free", [])
        self.check("done by place", [1, 3, 9])
        self.check("all", [], [])
        self.check("all by text back", [], [])

    def test_place_back(self):
        self.check("all by place back", list(range(10, 0, -1)))
        self.check("done by place back", [9, 3, 1])

    def test_by_text(self):
        # By ASCII numbers: no sign, then the capital, then the small ones; a beginning first.
        self.check("all by text", [5, 7, 6, 3, 2, 1, 4, 8, 9, 10])
        self.check("all by text back", [10, 9, 8, 4, 1, 2, 3, 6, 7, 5])
        rows = [row(0, 1, "~"), row(0, 2, "a b"), row(0, 3, "a"), row(0, 4, "a!"), row(0, 5, " "), row(0, 6, "Z")]
        self.check("all by text", [5, 6, 3, 2, 4, 1], rows)

    def test_by_size(self):
        self.check("all by size", [5, 1, 7, 9, 10, 3, 6, 8, 4, 2])
        self.check("all by size back", [2, 4, 3, 6, 8, 10, 1, 7, 9, 5])

    def test_by_depth(self):
        self.check("all by depth", [1, 8, 9, 2, 7, 10, 3, 6, 4, 5])
        self.check("all by depth back", [5, 4, 3, 6, 2, 7, 10, 1, 8, 9])

    def test_by_due(self):
        self.check("all by due", [3, 7, 1, 6, 4, 10, 9, 2, 5, 8])
        self.check("all by due back", [2, 5, 8, 9, 4, 10, 1, 6, 3, 7])

    def test_of_those_that_fit(self):
        self.check("not done by due back", [2, 5, 8, 4, 10, 6, 7])
        self.check("beneath 0.1 and leaf by text", [5, 7, 6])

    def test_rows_alike_by_the_key(self):
        rows = [row(0, number, "a", False, 1) for number in [4, 2, 9, 1]]
        for key in ["text", "size", "depth", "due"]:
            self.check(f"all by {key}", [4, 2, 9, 1], rows)
            self.check(f"all by {key} back", [4, 2, 9, 1], rows)
        self.check("all by place back", [1, 9, 2, 4], rows)

    def test_names_of_several_hands(self):
        rows = [(0, (2, 1), "b", False, None, False), (1, (0, 1), "a", False, None, False)]
        self.assertEqual(asked((("beneath", (2, 1)), "place", False), rows), rows[1:])
        self.assertEqual(asked((ALL, "text", False), rows), rows[::-1])

    def test_lists_told_are_new(self):
        for text in ["all", "all by place back", "all by text", "all by text back", "done"]:
            check_lists(self, lambda rows: asked(read_question(text), rows), list(ROWS))


class TestByChance(unittest.TestCase):

    def above(self, rows, at):
        """The rows beneath which a row is, looked up from below."""
        found, depth = [], rows[at][0]
        for ahead in reversed(rows[:at]):
            if ahead[0] < depth:
                found.append(ahead)
                depth = ahead[0]
        return found

    def test_trees(self):
        for seed in range(30):
            rows = some_rows(random.Random(seed), 40)
            spots = range(len(rows))
            self.assertEqual(fitting(SEEN, rows), [not any(up[5] for up in self.above(rows, at)) for at in spots])
            for name in [each[1] for each in rows]:
                beneath = [name in [up[1] for up in self.above(rows, at)] for at in spots]
                self.assertEqual(fitting(("beneath", name), rows), beneath)
            above = [up for at in spots for up in self.above(rows, at)]
            self.assertEqual(fitting(LEAF, rows), [each not in above for each in rows])

    def test_orders(self):
        keys = {
            "text": lambda each: [ord(sign) for sign in each[2]], "size": lambda each: len(each[2]),
            "depth": lambda each: each[0], "due": lambda each: 999 if each[4] is None else each[4],
        }
        for seed in range(30):
            rows = some_rows(random.Random(seed), 40)
            for word, key in keys.items():
                for back in [False, True]:
                    told = asked((ALL, word, back), rows)
                    self.assertCountEqual(told, rows)
                    for one, other in zip(told, told[1:]):
                        if key(one) == key(other):
                            self.assertLess(rows.index(one), rows.index(other))
                        else:
                            self.assertIs(key(one) > key(other), back)

    def test_three_hundred_rows(self):
        rows = some_rows(random.Random(99), 300)
        self.assertEqual(asked((ALL, "place", True), rows), rows[::-1])
        self.assertEqual(len(fitting(SEEN, rows)), 300)


if __name__ == "__main__":
    unittest.main()
