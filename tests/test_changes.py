import random
import unittest

from limb.changes import changes_of
from samples import after_changes, check_lists, fewest, kinds_of, row


def rows_of(numbers):
    return [row(0, number, f"row {number}") for number in numbers]


def some_rows(chance, most, kinds):
    return rows_of(chance.randrange(kinds) for each in range(chance.randint(0, most)))


class TestChanges(unittest.TestCase):

    def check(self, old, new, count=None):
        """They lead from the first list to the second, each number being there, and are as few as can be."""
        handed = list(old), list(new)
        changes = changes_of(*handed)
        self.assertEqual(handed, (old, new))
        self.assertIs(type(changes), list)
        self.assertEqual(after_changes(self, old, changes), new)
        self.assertEqual(len(changes), fewest(old, new))
        if count is not None:
            self.assertEqual(len(changes), count)
        for change in changes:
            self.assertEqual(kinds_of(change[:2]), (tuple, [str, int]))

    def test_none_to_none(self):
        self.assertEqual(changes_of([], []), [])

    def test_none_to_some(self):
        new = rows_of([1, 2, 3])
        self.check([], new, 3)
        self.assertEqual(changes_of([], new[:1]), [("put", 0, new[0])])

    def test_some_to_none(self):
        self.check(rows_of([1, 2, 3]), [], 3)
        self.assertEqual(changes_of(rows_of([1]), []), [("cut", 0)])

    def test_a_list_to_itself(self):
        for count in [1, 2, 5, 300]:
            rows = rows_of(range(count))
            self.assertEqual(changes_of(rows, list(rows)), [])
            self.assertEqual(changes_of(rows, rows), [])

    def test_one_cut(self):
        rows = rows_of(range(5))
        for at in range(5):
            self.assertEqual(changes_of(rows, rows[:at] + rows[at + 1:]), [("cut", at)])

    def test_one_put(self):
        rows = rows_of(range(5))
        for at in range(5):
            self.assertEqual(changes_of(rows[:at] + rows[at + 1:], rows), [("put", at, rows[at])])

    def test_one_moved(self):
        rows = rows_of(range(6))
        for at in range(6):
            rest = rows[:at] + rows[at + 1:]
            for to in range(6):
                self.check(rows, rest[:to] + [rows[at]] + rest[to:], 0 if at == to else 2)

    def test_one_set_anew(self):
        rows = rows_of(range(5))
        for at in range(5):
            for changed in [
                rows[at][:2] + ("other",) + rows[at][3:], (1,) + rows[at][1:], rows[at][:3] + (True, None, False),
                rows[at][:4] + (0, False), rows[at][:5] + (True,), (0, (1, at)) + rows[at][2:],
            ]:
                self.check(rows, rows[:at] + [changed] + rows[at + 1:], 2)

    def test_no_row_in_common(self):
        self.check(rows_of([1, 2, 3]), rows_of([4, 5]), 5)
        self.check(rows_of([1]), rows_of([2]), 2)

    def test_turned(self):
        for count in [2, 3, 4, 9, 40]:
            rows = rows_of(range(count))
            self.check(rows, rows[::-1], 2 * (count - 1))

    def test_the_longest_that_stays(self):
        # Matching the first row that is alike would keep one row where three can stay.
        self.check(rows_of([1, 2, 3, 4]), rows_of([4, 1, 2, 3]), 2)
        self.check(rows_of([4, 1, 2, 3]), rows_of([1, 2, 3, 4]), 2)
        self.check(rows_of([1, 2, 3, 4, 5, 6]), rows_of([5, 1, 6, 2, 3]), 5)
        self.check(rows_of([1, 2, 3, 4, 5, 6]), rows_of([4, 5, 6, 1, 2, 3]), 6)

    def test_rows_that_stand_more_than_once(self):
        self.check(rows_of([1, 1, 2]), rows_of([1, 2, 2]), 2)
        self.check(rows_of([1, 1, 1]), rows_of([1]), 2)
        self.check(rows_of([1, 2, 1, 2]), rows_of([2, 1, 2, 1]), 2)

    def test_by_chance(self):
        chance = random.Random(101)
        for each in range(400):
            self.check(some_rows(chance, 9, 6), some_rows(chance, 9, 6))
        for each in range(60):
            old = rows_of(chance.sample(range(30), chance.randint(0, 30)))
            self.check(old, rows_of(chance.sample(range(30), chance.randint(0, 30))))

    def test_three_hundred_rows(self):
        chance = random.Random(102)
        rows = rows_of(range(300))
        self.check(rows, chance.sample(rows, 300))
        self.check(rows, rows_of(range(300, 600)), 600)
        self.check(rows, rows[::-1], 598)
        self.check(rows, [], 300)
        self.check([], rows, 300)
        near = [each for each in rows if chance.random() < 0.9]
        self.check(rows, near, 300 - len(near))
        self.check(near, rows, 300 - len(near))

    def test_lists_told_are_new(self):
        old, new = rows_of([1, 2, 3]), rows_of([3, 1])
        check_lists(self, lambda rows: changes_of(rows, new), old)
        check_lists(self, lambda rows: changes_of(old, rows), new)
        check_lists(self, lambda rows: changes_of(rows, rows), old)


if __name__ == "__main__":
    unittest.main()
