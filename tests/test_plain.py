import random
import unittest

from limb.errors import Beneath, Far, LimbError, NoItem, Taken
from limb.plain import Plain, lets_by
from samples import SIXTY, all_of, items_of, kinds_of

A, B, C, D, E, F = (0, 1), (1, 1), (0, 2), (2, 5), (1, 2), (0, 9)
NEW, LOST, GONE = (3, 3), (8, 8), (7, 7)

# At the top a and d; beneath a: b, and beneath this: c; beneath d: e and f.
TREE = [
    ("put", A, None, (0,), "alpha"),
    ("put", B, A, (0,), "beta"),
    ("put", C, B, (0,), "gamma"),
    ("put", D, None, (1,), "delta"),
    ("put", E, D, (0,), "eps"),
    ("put", F, D, (1,), "phi"),
]


def outline_of(steps):
    outline = Plain()
    for step in steps:
        outline.step(step)
    return outline


def tree():
    return outline_of(TREE)


def names_in(rows):
    return [row[1] for row in rows]


class TestSteps(unittest.TestCase):

    def check(self, outline, step, changed):
        """The step is taken: these items are as told, all others as before."""
        with self.subTest(step=step):
            before = items_of(outline)
            self.assertIsNone(outline.step(step))
            after = {**before, **changed}
            self.assertEqual(items_of(outline), after)
            self.assertEqual(outline.names(), list(after))
            for name in after:
                self.assertEqual(kinds_of(outline.item(name)), kinds_of(after[name]))

    def test_nothing_at_first(self):
        self.assertEqual(all_of(Plain()), ([], {}, [], [[]], []))

    def test_put(self):
        outline = Plain()
        self.check(outline, ("put", A, None, (0,), "a"), {A: (None, (0,), "a", False, None, False)})
        self.check(outline, ("put", B, A, (3, -1), ""), {B: (A, (3, -1), "", False, None, False)})
        self.check(outline, ("put", C, B, (0,), " x "), {C: (B, (0,), " x ", False, None, False)})
        self.check(outline, ("put", D, None, (0,), "a"), {D: (None, (0,), "a", False, None, False)})

    def test_names_are_of_whole_numbers_from_nought_on(self):
        outline = Plain()
        for name in [(0, 0), (0, 1), (99, 0), (SIXTY, SIXTY)]:
            self.check(outline, ("put", name, None, (0,), "a"), {name: (None, (0,), "a", False, None, False)})

    def test_move(self):
        outline = tree()
        self.check(outline, ("move", B, D, (7, 7)), {B: (D, (7, 7), "beta", False, None, False)})
        self.check(outline, ("move", B, None, (-1,)), {B: (None, (-1,), "beta", False, None, False)})
        self.check(outline, ("move", A, C, (0,)), {A: (C, (0,), "alpha", False, None, False)})
        self.check(outline, ("move", E, D, (5,)), {E: (D, (5,), "eps", False, None, False)})
        self.check(outline, ("move", D, None, (1,)), {D: (None, (1,), "delta", False, None, False)})

    def test_write(self):
        outline = tree()
        self.check(outline, ("write", B, "new"), {B: (A, (0,), "new", False, None, False)})
        self.check(outline, ("write", A, ""), {A: (None, (0,), "", False, None, False)})
        self.check(outline, ("write", A, "x" * 200), {A: (None, (0,), "x" * 200, False, None, False)})

    def test_mark(self):
        outline = tree()
        self.check(outline, ("mark", B, True), {B: (A, (0,), "beta", True, None, False)})
        self.check(outline, ("mark", B, True), {B: (A, (0,), "beta", True, None, False)})
        self.check(outline, ("mark", B, False), {B: (A, (0,), "beta", False, None, False)})

    def test_due(self):
        outline = tree()
        self.check(outline, ("due", B, 0), {B: (A, (0,), "beta", False, 0, False)})
        self.check(outline, ("due", B, 7), {B: (A, (0,), "beta", False, 7, False)})
        self.check(outline, ("due", B, None), {B: (A, (0,), "beta", False, None, False)})

    def test_fold(self):
        outline = tree()
        self.check(outline, ("fold", B, True), {B: (A, (0,), "beta", False, None, True)})
        self.check(outline, ("fold", B, True), {B: (A, (0,), "beta", False, None, True)})
        self.check(outline, ("fold", B, False), {B: (A, (0,), "beta", False, None, False)})

    def test_each_changes_its_own_field_alone(self):
        outline = tree()
        for step in [("mark", B, True), ("due", B, 2), ("fold", B, True)]:
            outline.step(step)
        self.check(outline, ("write", B, "x"), {B: (A, (0,), "x", True, 2, True)})
        self.check(outline, ("move", B, D, (4,)), {B: (D, (4,), "x", True, 2, True)})
        self.check(outline, ("mark", B, False), {B: (D, (4,), "x", False, 2, True)})
        self.check(outline, ("fold", B, False), {B: (D, (4,), "x", False, 2, False)})
        self.check(outline, ("due", B, None), {B: (D, (4,), "x", False, None, False)})

    def test_part(self):
        for at, kept, rest in [(0, "", "beta"), (1, "b", "eta"), (3, "bet", "a"), (4, "beta", "")]:
            self.check(tree(), ("part", B, at, NEW, (9,)), {
                B: (A, (0,), kept, False, None, False), NEW: (A, (9,), rest, False, None, False),
            })

    def test_nothing_stands_ahead_of_a_number_below_nought(self):
        self.check(tree(), ("part", B, -1, NEW, (9,)), {
            B: (A, (0,), "", False, None, False), NEW: (A, (9,), "beta", False, None, False),
        })

    def test_part_at_the_top(self):
        self.check(tree(), ("part", A, 2, NEW, (0,)), {
            A: (None, (0,), "al", False, None, False), NEW: (None, (0,), "pha", False, None, False),
        })

    def test_part_of_a_text_without_signs(self):
        outline = outline_of([("put", A, None, (0,), "")])
        self.check(outline, ("part", A, 0, NEW, (1,)), {NEW: (None, (1,), "", False, None, False)})

    def test_a_new_part_is_not_done_due_to_nobody_not_folded(self):
        outline = tree()
        for step in [("mark", B, True), ("due", B, 2), ("fold", B, True)]:
            outline.step(step)
        self.check(outline, ("part", B, 2, NEW, (9,)), {
            B: (A, (0,), "be", True, 2, True), NEW: (A, (9,), "ta", False, None, False),
        })
        self.assertEqual(outline.below(B), [C])
        self.assertEqual(outline.below(NEW), [])

    def test_join(self):
        self.check(tree(), ("join", A, D), {
            A: (None, (0,), "alphadelta", False, None, False), D: (None, (1,), "", False, None, False),
            E: (A, (0,), "eps", False, None, False), F: (A, (1,), "phi", False, None, False),
        })

    def test_join_of_one_right_beneath(self):
        self.check(tree(), ("join", A, B), {
            A: (None, (0,), "alphabeta", False, None, False), B: (A, (0,), "", False, None, False),
            C: (A, (0,), "gamma", False, None, False),
        })

    def test_join_of_one_further_down(self):
        self.check(tree(), ("join", A, C), {
            A: (None, (0,), "alphagamma", False, None, False), C: (B, (0,), "", False, None, False),
        })

    def test_join_takes_along_what_is_gone_but_not_what_is_further_down(self):
        outline = tree()
        outline.step(("gone", E))
        outline.step(("put", NEW, E, (2,), "new"))
        self.check(outline, ("join", C, D), {
            C: (B, (0,), "gammadelta", False, None, False), D: (None, (1,), "", False, None, False),
            E: (C, (0,), "eps", False, None, False), F: (C, (1,), "phi", False, None, False),
        })
        self.assertIs(outline.is_gone(E), True)
        self.assertIs(outline.is_gone(F), False)

    def test_join_keeps_what_else_both_have(self):
        outline = tree()
        for step in [("mark", A, True), ("due", D, 1), ("fold", D, True), ("mark", E, True), ("due", E, 0)]:
            outline.step(step)
        self.check(outline, ("join", A, D), {
            A: (None, (0,), "alphadelta", True, None, False), D: (None, (1,), "", False, 1, True),
            E: (A, (0,), "eps", True, 0, False), F: (A, (1,), "phi", False, None, False),
        })

    def test_join_twice(self):
        outline = tree()
        outline.step(("join", A, D))
        self.check(outline, ("join", A, D), {})
        self.check(outline, ("join", D, A), {
            D: (None, (1,), "alphadelta", False, None, False), A: (None, (0,), "", False, None, False),
            B: (D, (0,), "beta", False, None, False), E: (D, (0,), "eps", False, None, False),
            F: (D, (1,), "phi", False, None, False),
        })

    def test_gone(self):
        outline = tree()
        self.check(outline, ("gone", D), {})
        self.assertEqual([name for name in outline.names() if outline.is_gone(name)], [D, E, F])
        self.assertEqual(names_in(outline.rows()), [A, B, C])
        self.check(outline, ("gone", D), {})
        self.assertEqual([name for name in outline.names() if outline.is_gone(name)], [D, E, F])

    def test_steps_on_gone_items(self):
        outline = tree()
        outline.step(("gone", D))
        self.check(outline, ("put", NEW, D, (2,), "new"), {NEW: (D, (2,), "new", False, None, False)})
        self.check(outline, ("write", D, "x"), {D: (None, (1,), "x", False, None, False)})
        self.check(outline, ("mark", E, True), {E: (D, (0,), "eps", True, None, False)})
        self.check(outline, ("due", D, 3), {D: (None, (1,), "x", False, 3, False)})
        self.check(outline, ("fold", D, True), {D: (None, (1,), "x", False, 3, True)})
        self.check(outline, ("move", D, A, (1,)), {D: (A, (1,), "x", False, 3, True)})
        self.check(outline, ("move", B, D, (1,)), {B: (D, (1,), "beta", False, None, False)})
        self.check(outline, ("part", D, 0, (6, 6), (1,)), {
            D: (A, (1,), "", False, 3, True), (6, 6): (A, (1,), "x", False, None, False),
        })
        self.assertEqual(names_in(outline.rows()), [A, (6, 6)])

    def test_what_was_handed_in_stays(self):
        steps = list(TREE)
        outline_of(steps)
        self.assertEqual(steps, TREE)

    def test_each_outline_has_its_own(self):
        one, other = tree(), Plain()
        one.step(("gone", A))
        self.assertEqual(other.names(), [])
        other.step(TREE[0])
        self.assertIs(other.is_gone(A), False)


class TestRefusals(unittest.TestCase):

    def refuse(self, step, error, name=None):
        """Refused so, nothing is changed, and a good step is taken still."""
        outline = tree()
        outline.step(("put", GONE, A, (5,), "gone"))
        outline.step(("gone", GONE))
        before = all_of(outline)
        with self.subTest(step=step):
            with self.assertRaises(LimbError) as caught:
                outline.step(step)
            self.assertIs(type(caught.exception), error)
            if error is NoItem:
                self.assertEqual(caught.exception.name, name)
            self.assertEqual(all_of(outline), before)
            outline.step(("write", A, "good"))
            self.assertEqual(outline.item(A)[2], "good")
            outline.step(("put", NEW, A, (0,), "good"))
            self.assertEqual(outline.names(), before[0] + [NEW])

    def test_taken(self):
        self.refuse(("put", A, None, (0,), "a"), Taken)
        self.refuse(("put", C, A, (0,), "a"), Taken)
        self.refuse(("put", GONE, None, (0,), "a"), Taken)
        self.refuse(("part", A, 0, B, (0,)), Taken)
        self.refuse(("part", A, 5, A, (0,)), Taken)
        self.refuse(("part", A, 5, GONE, (0,)), Taken)

    def test_taken_ahead_of_no_item(self):
        self.refuse(("put", A, LOST, (0,), "a"), Taken)
        self.refuse(("put", A, A, (0,), "a"), Taken)
        self.refuse(("part", LOST, 0, A, (0,)), Taken)

    def test_taken_ahead_of_far(self):
        self.refuse(("part", A, 6, B, (0,)), Taken)
        self.refuse(("part", LOST, 99, B, (0,)), Taken)

    def test_no_item(self):
        self.refuse(("put", NEW, LOST, (0,), "a"), NoItem, LOST)
        self.refuse(("put", NEW, NEW, (0,), "a"), NoItem, NEW)
        self.refuse(("move", LOST, None, (0,)), NoItem, LOST)
        self.refuse(("move", LOST, A, (0,)), NoItem, LOST)
        self.refuse(("move", A, LOST, (0,)), NoItem, LOST)
        self.refuse(("write", LOST, "a"), NoItem, LOST)
        self.refuse(("mark", LOST, True), NoItem, LOST)
        self.refuse(("due", LOST, None), NoItem, LOST)
        self.refuse(("fold", LOST, False), NoItem, LOST)
        self.refuse(("part", LOST, 0, NEW, (0,)), NoItem, LOST)
        self.refuse(("part", LOST, 0, LOST, (0,)), NoItem, LOST)
        self.refuse(("join", LOST, A), NoItem, LOST)
        self.refuse(("join", A, LOST), NoItem, LOST)
        self.refuse(("gone", LOST), NoItem, LOST)

    def test_the_first_from_the_left(self):
        for one, other in [(LOST, NEW), (NEW, LOST)]:
            self.refuse(("move", one, other, (0,)), NoItem, one)
            self.refuse(("join", one, other), NoItem, one)

    def test_no_item_ahead_of_beneath(self):
        self.refuse(("move", LOST, LOST, (0,)), NoItem, LOST)
        self.refuse(("join", LOST, LOST), NoItem, LOST)

    def test_no_item_ahead_of_far(self):
        self.refuse(("part", LOST, 99, NEW, (0,)), NoItem, LOST)

    def test_a_move_beneath_itself(self):
        self.refuse(("move", A, A, (0,)), Beneath)
        self.refuse(("move", A, B, (0,)), Beneath)
        self.refuse(("move", A, C, (0,)), Beneath)
        self.refuse(("move", B, C, (0,)), Beneath)
        self.refuse(("move", C, C, (9,)), Beneath)
        self.refuse(("move", A, GONE, (0,)), Beneath)
        self.refuse(("move", GONE, GONE, (0,)), Beneath)

    def test_a_join_beneath_itself(self):
        self.refuse(("join", A, A), Beneath)
        self.refuse(("join", B, A), Beneath)
        self.refuse(("join", C, A), Beneath)
        self.refuse(("join", C, B), Beneath)
        self.refuse(("join", GONE, A), Beneath)

    def test_far(self):
        self.refuse(("part", A, 6, NEW, (0,)), Far)
        self.refuse(("part", E, 4, NEW, (0,)), Far)
        self.refuse(("part", A, 4000, NEW, (0,)), Far)
        self.refuse(("part", A, SIXTY, NEW, (0,)), Far)
        self.refuse(("part", GONE, 5, NEW, (0,)), Far)

    def test_far_by_the_text_of_now(self):
        outline = tree()
        outline.step(("write", A, "ab"))
        with self.assertRaises(Far):
            outline.step(("part", A, 3, NEW, (0,)))
        outline.step(("join", A, B))
        outline.step(("part", A, 6, NEW, (0,)))
        self.assertEqual(outline.item(NEW)[2], "")
        with self.assertRaises(Far):
            outline.step(("part", B, 1, (9, 9), (0,)))

    def test_beneath_by_the_outline_of_now(self):
        outline = tree()
        outline.step(("move", C, None, (0,)))
        outline.step(("move", A, C, (0,)))
        with self.assertRaises(Beneath):
            outline.step(("move", C, B, (0,)))
        with self.assertRaises(Beneath):
            outline.step(("join", B, C))


class TestAsked(unittest.TestCase):

    def test_names_in_the_order_in_which_they_came(self):
        outline = outline_of([
            ("put", D, None, (5,), "d"), ("put", A, None, (1,), "a"), ("part", D, 0, C, (0,)),
            ("put", B, A, (0,), "b"), ("gone", A), ("write", D, "x"), ("move", A, None, (9,)), ("join", D, A),
        ])
        self.assertEqual(outline.names(), [D, A, C, B])

    def test_item_that_is_not_there(self):
        for name in [LOST, NEW, (0, 0)]:
            with self.assertRaises(NoItem) as caught:
                tree().item(name)
            self.assertEqual(caught.exception.name, name)

    def test_item_that_is_gone(self):
        outline = tree()
        outline.step(("gone", A))
        self.assertEqual(outline.item(A), (None, (0,), "alpha", False, None, False))
        self.assertEqual(outline.item(C), (B, (0,), "gamma", False, None, False))

    def test_beneath(self):
        outline = tree()
        pairs = {(B, A), (C, B), (C, A), (E, D), (F, D)}
        for one in outline.names():
            for other in outline.names():
                with self.subTest(one=one, other=other):
                    self.assertIs(outline.beneath(one, other), (one, other) in pairs)

    def test_beneath_when_moved_and_joined(self):
        outline = tree()
        outline.step(("move", B, E, (0,)))
        self.assertIs(outline.beneath(C, A), False)
        self.assertIs(outline.beneath(C, D), True)
        outline.step(("join", F, E))
        self.assertIs(outline.beneath(C, E), False)
        self.assertIs(outline.beneath(C, F), True)
        outline.step(("gone", F))
        self.assertIs(outline.beneath(C, F), True)

    def test_is_gone(self):
        outline = tree()
        self.assertEqual([outline.is_gone(name) for name in outline.names()], [False] * 6)
        outline.step(("gone", B))
        self.assertIs(outline.is_gone(A), False)
        self.assertIs(outline.is_gone(B), True)
        self.assertIs(outline.is_gone(C), True)
        self.assertIs(outline.is_gone(D), False)

    def test_is_gone_as_long_as_it_is_beneath(self):
        outline = tree()
        outline.step(("gone", A))
        self.assertIs(outline.is_gone(C), True)
        outline.step(("move", C, D, (0,)))
        self.assertIs(outline.is_gone(C), False)
        outline.step(("move", C, A, (0,)))
        self.assertIs(outline.is_gone(C), True)
        outline.step(("move", A, D, (0,)))
        self.assertIs(outline.is_gone(A), True)

    def test_below(self):
        outline = tree()
        self.assertEqual(outline.below(None), [A, D])
        self.assertEqual(outline.below(A), [B])
        self.assertEqual(outline.below(B), [C])
        self.assertEqual(outline.below(C), [])
        self.assertEqual(outline.below(D), [E, F])

    def test_below_when_some_are_gone(self):
        outline = tree()
        outline.step(("gone", E))
        self.assertEqual(outline.below(D), [F])
        outline.step(("gone", A))
        self.assertEqual(outline.below(None), [D])
        self.assertEqual(outline.below(A), [])
        self.assertEqual(outline.below(B), [])
        self.assertEqual(outline.below(E), [])

    def test_below_in_the_order_of_places(self):
        places = [(-2,), (-1, -5), (-1, 0), (0,), (0, -3), (0, 0), (0, 0, 0), (1,), (2, 9), (10,)]
        for up in [None, A]:
            outline = outline_of(TREE[:1])
            for number in [3, 8, 0, 9, 5, 1, 7, 2, 6, 4]:
                outline.step(("put", (5, 20 - number), up, places[number], "x"))
            below = [(5, 20 - number) for number in range(10)]
            self.assertEqual([name for name in outline.below(up) if name != A], below)

    def test_below_like_places_by_names(self):
        names = [(0, 2), (0, 10), (1, 1), (1, 9), (2, 0), (10, 1)]
        outline = Plain()
        for at in [4, 1, 5, 0, 3, 2]:
            outline.step(("put", names[at], None, (3, 3), "x"))
        self.assertEqual(outline.below(None), names)
        self.assertEqual(names_in(outline.rows()), names)

    def test_rows(self):
        outline = tree()
        for step in [("mark", B, True), ("due", C, 4), ("fold", D, True)]:
            outline.step(step)
        rows = [
            (0, A, "alpha", False, None, False),
            (1, B, "beta", True, None, False),
            (2, C, "gamma", False, 4, False),
            (0, D, "delta", False, None, True),
            (1, E, "eps", False, None, False),
            (1, F, "phi", False, None, False),
        ]
        self.assertEqual(outline.rows(), rows)
        self.assertEqual(kinds_of(outline.rows()), kinds_of(rows))

    def test_rows_in_their_order_over_three_depths(self):
        outline = outline_of([
            ("put", (0, 1), None, (2,), "x"), ("put", (0, 2), None, (1,), "x"), ("put", (0, 3), (0, 1), (5,), "x"),
            ("put", (1, 1), (0, 1), (5,), "x"), ("put", (0, 4), (0, 1), (5,), "x"),
            ("put", (0, 5), (0, 1), (4, 9), "x"), ("put", (0, 6), (1, 1), (0,), "x"),
            ("put", (0, 7), (1, 1), (-1,), "x"), ("put", (0, 8), (0, 2), (0,), "x"),
            ("put", (0, 10), (0, 8), (0,), "x"), ("put", (0, 9), (0, 8), (0,), "x"),
        ])
        self.assertEqual([row[:2] for row in outline.rows()], [
            (0, (0, 2)), (1, (0, 8)), (2, (0, 9)), (2, (0, 10)),
            (0, (0, 1)), (1, (0, 5)), (1, (0, 3)), (1, (0, 4)), (1, (1, 1)), (2, (0, 7)), (2, (0, 6)),
        ])

    def test_rows_without_gone_ones(self):
        outline = tree()
        outline.step(("gone", B))
        self.assertEqual(names_in(outline.rows()), [A, D, E, F])
        outline.step(("move", C, A, (0,)))
        self.assertEqual([row[:2] for row in outline.rows()], [(0, A), (1, C), (0, D), (1, E), (1, F)])
        outline.step(("gone", D))
        self.assertEqual(names_in(outline.rows()), [A, C])
        outline.step(("gone", A))
        self.assertEqual(outline.rows(), [])

    def test_three_hundred_items_within_one_another(self):
        outline = Plain()
        for number in range(1, 301):
            outline.step(("put", (0, number), (0, number - 1) if number > 1 else None, (0,), "x"))
        self.assertEqual([row[:2] for row in outline.rows()], [(number, (0, number + 1)) for number in range(300)])
        self.assertIs(outline.beneath((0, 300), (0, 1)), True)
        with self.assertRaises(Beneath):
            outline.step(("move", (0, 1), (0, 300), (0,)))
        outline.step(("gone", (0, 1)))
        self.assertIs(outline.is_gone((0, 300)), True)
        self.assertEqual(outline.rows(), [])

    def test_lists_told_before_stay(self):
        outline = tree()
        names, below, rows, item = outline.names(), outline.below(D), outline.rows(), outline.item(A)
        kept = list(names), list(below), list(rows), item
        for step in [
            ("put", NEW, D, (-1,), "new"), ("write", A, "x"), ("gone", E), ("join", A, D), ("mark", A, True),
        ]:
            outline.step(step)
        self.assertEqual((names, below, rows, item), kept)
        self.assertNotEqual((outline.names(), outline.below(D), outline.rows(), outline.item(A)), kept)

    def test_what_the_asker_does_to_them_changes_nothing(self):
        outline = tree()
        before = all_of(outline)
        for told in [outline.names(), outline.below(None), outline.below(D), outline.rows()]:
            told.append(NEW)
            told.reverse()
            told.pop()
        self.assertEqual(all_of(outline), before)
        for ask in [outline.names, outline.rows, lambda: outline.below(D)]:
            self.assertIsNot(ask(), ask())


class Model:
    """[17] to [19] told another way: rows by a walk within a walk, beneath by what is above."""

    def __init__(self):
        self.items, self.gone = {}, set()

    def above(self, name):
        up = self.items[name]["up"]
        return [] if up is None else [up] + self.above(up)

    def refusal(self, step):
        word = step[0]
        if word == "put" and step[1] in self.items or word == "part" and step[3] in self.items:
            return "Taken"
        asked = {"put": step[2:3], "move": step[1:3], "join": step[1:3]}.get(word, step[1:2])
        for name in asked:
            if name is not None and name not in self.items:
                return "NoItem", name
        if word == "move" and step[2] is not None and step[1] in [step[2]] + self.above(step[2]):
            return "Beneath"
        if word == "join" and step[2] in [step[1]] + self.above(step[1]):
            return "Beneath"
        if word == "part" and len(self.items[step[1]]["text"]) < step[2]:
            return "Far"
        return None

    def new_item(self, name, up, place, text):
        self.items[name] = {"up": up, "place": place, "text": text, "done": False, "whom": None, "folded": False}

    def step(self, step):
        word, item = step[0], self.items.get(step[1])
        if word == "put":
            self.new_item(*step[1:])
        elif word == "part":
            self.new_item(step[3], item["up"], step[4], item["text"][step[2]:])
            item["text"] = item["text"][:step[2]]
        elif word == "join":
            item["text"] += self.items[step[2]]["text"]
            self.items[step[2]]["text"] = ""
            for lower in self.items.values():
                if lower["up"] == step[2]:
                    lower["up"] = step[1]
        elif word == "gone":
            self.gone.add(step[1])
        else:
            fields = {"move": ["up", "place"], "write": ["text"], "mark": ["done"], "due": ["whom"], "fold": ["folded"]}
            item.update(zip(fields[word], step[2:]))

    def rows(self, up=None, depth=0):
        names = [name for name in self.items if self.items[name]["up"] == up and name not in self.gone]
        rows = []
        for name in sorted(names, key=lambda name: (self.items[name]["place"], name)):
            item = self.items[name]
            rows.append((depth, name, item["text"], item["done"], item["whom"], item["folded"]))
            rows += self.rows(name, depth + 1)
        return rows


def some_step(chance):
    name, other = [(chance.randrange(3), chance.randrange(4)) for each in range(2)]
    up, place = chance.choice([None, other]), (chance.randint(-1, 1),)
    return chance.choice([
        ("put", name, up, place, chance.choice(["", "ab", "cde"])), ("put", name, up, place, "x"),
        ("put", name, up, place, "y"), ("move", name, up, place), ("move", name, up, place), ("write", name, "new"),
        ("mark", name, chance.random() < 0.5), ("due", name, chance.choice([None, 0, 1])),
        ("fold", name, chance.random() < 0.5), ("part", name, chance.randrange(5), other, place),
        ("join", name, other), ("gone", name) if chance.random() < 0.3 else ("move", name, up, place),
    ])


class TestByChance(unittest.TestCase):

    def test_steps_by_chance(self):
        chance = random.Random(41)
        seen = {}
        for each in range(60):
            outline, model = Plain(), Model()
            for number in range(60):
                step = some_step(chance)
                refusal = model.refusal(step)
                told = None
                try:
                    outline.step(step)
                    model.step(step)
                except NoItem as error:
                    told = ("NoItem", error.name)
                except LimbError as error:
                    told = type(error).__name__
                self.assertEqual(told, refusal, step)
                self.assertEqual(outline.rows(), model.rows())
                self.assertEqual(outline.names(), list(model.items))
                key = told if told is None or isinstance(told, str) else told[0]
                seen[key] = seen.get(key, 0) + 1
        self.assertEqual(len(seen), 5)
        self.assertGreater(min(seen.values()), 10)


class TestLetsBy(unittest.TestCase):

    def check(self, steps, answer):
        with self.subTest(steps=steps):
            handed = list(steps)
            self.assertIs(lets_by(handed), answer)
            self.assertEqual(handed, steps)

    def test_steps_that_are_taken(self):
        self.check([], True)
        self.check(TREE, True)
        for count in range(len(TREE)):
            self.check(TREE[:count], True)
        self.check(TREE + [("gone", A), ("part", B, 4, NEW, (0,)), ("join", A, D), ("move", NEW, None, (0,))], True)

    def test_one_that_is_refused(self):
        for step in [("write", LOST, "x"), ("put", A, LOST, (0,), "x"), ("join", LOST, LOST), ("gone", LOST)]:
            for at in range(len(TREE) + 1):
                self.check(TREE[:at] + [step] + TREE[at:], False)

    def test_each_refusal(self):
        for step in [
            ("put", A, None, (0,), "x"), ("put", NEW, LOST, (0,), "x"), ("move", A, C, (0,)), ("part", A, 6, NEW, (0,)),
        ]:
            self.check(TREE + [step], False)
            self.check(TREE + [step, ("write", A, "x")], False)

    def test_one_after_the_other(self):
        self.check([TREE[1], TREE[0]], False)
        self.check([TREE[0], TREE[1], TREE[0]], False)
        self.check(TREE, True)
        self.check(TREE, True)


if __name__ == "__main__":
    unittest.main()
