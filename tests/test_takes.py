import random
import unittest

from limb.deeds import is_deed, name_of
from limb.folds import steps_of, words_of
from limb.orders import ready_of
from limb.plain import Plain, lets_by
from limb.takes import history_of, outline_of, report_of, takings_of
from samples import all_of, by_one_hand, by_turns, check_lists, in_order, kinds_of, put, some_deeds

# At the top a and d; beneath a: b, and beneath this: c. Five deeds of hand 0; the last one does nothing.
BASE = [put("a"), put("b", (0, 1)), put("c", (0, 2)), put("d", None, (1,)), ("none",)]
A, B, C, D = (0, 1), (0, 2), (0, 3), (0, 4)


def two_hands(mine, yours, base=BASE):
    """Hand 0 does the base and then `mine`; hand 1, which has heard of the base alone, does `yours`."""
    deeds = [(0, (number, 0), what) for number, what in enumerate(base + mine, start=1)]
    deeds += [(1, (len(base), number), what) for number, what in enumerate(yours, start=1)]
    return in_order(deeds)


def heard_by(hand, ready, what):
    """One more deed, of a hand that has heard of all these."""
    clock = [sum(1 for deed in ready if deed[0] == each) for each in range(len(ready[0][1]))]
    clock[hand] += 1
    return ready + [(hand, tuple(clock), what)]


def names_told(ready):
    return [row[1] for row in outline_of(ready).rows()]


class Checked(unittest.TestCase):

    def check_ready(self, ready):
        for deed in ready:
            self.assertIs(is_deed(deed, len(deed[1])), True)
        self.assertEqual(ready_of(ready), ready)

    def check_takings(self, ready, takings):
        with self.subTest(ready=ready):
            self.check_ready(ready)
            self.assertEqual(takings_of(ready), takings)
            gone = [item for name, item, by in takings if by is None]
            outline = outline_of(ready)
            for item in gone:
                self.assertIs(outline.is_gone(item), True)
            whole = Plain()
            for name, step in steps_of(ready):
                whole.step(step)
            for name in outline.names():
                above = [each for each in gone if each == name or whole.beneath(name, each)]
                self.assertIs(outline.is_gone(name), above != [])

    def check_report(self, ready, told):
        """These rows of the report, by the deeds' names; all others are (name, "done", None)."""
        with self.subTest(ready=ready):
            self.check_ready(ready)
            rows = [(name_of(deed),) + told.get(name_of(deed), ("done", None)) for deed in ready]
            self.assertEqual(report_of(ready), rows)


class TestTakings(Checked):

    def test_no_deeds(self):
        self.assertEqual(takings_of([]), [])
        self.assertEqual(report_of([]), [])
        self.assertEqual(history_of([]), [])
        self.assertEqual(all_of(outline_of([])), all_of(Plain()))

    def test_none_taken_away(self):
        self.check_takings(by_one_hand(BASE), [])

    def test_a_take_that_stands(self):
        ready = by_one_hand(BASE + [("take", B)])
        self.check_takings(ready, [((0, 6), B, None)])
        self.assertEqual(names_told(ready), [A, D])

    def test_a_join_that_stands(self):
        ready = by_one_hand(BASE + [("join", D, B)])
        self.check_takings(ready, [((0, 6), B, None)])
        self.assertEqual(names_told(ready), [A, D, C])

    def test_all_that_are_taken_in_their_order(self):
        ready = by_one_hand(BASE + [("take", D), ("join", A, B), ("take", C), ("take", D)])
        self.check_takings(ready, [((0, 6), D, None), ((0, 7), B, None), ((0, 8), C, None), ((0, 9), D, None)])

    def test_what_gave_way_or_is_off_is_no_taking(self):
        ready = by_one_hand(BASE + [("take", (0, 5)), ("join", C, A), ("join", (0, 5), A), ("join", A, (0, 5))])
        self.check_takings(ready, [])
        self.check_takings(by_one_hand(BASE + [("take", B), ("join", A, D), ("off", 6), ("off", 7)]), [])

    def test_turned_on_again_it_is_one(self):
        self.check_takings(by_one_hand(BASE + [("take", B), ("off", 6), ("on", 6)]), [((0, 6), B, None)])

    def test_a_back_that_has_heard_of_it(self):
        for taking in [("take", B), ("join", D, B), ("join", A, B)]:
            mine = by_one_hand(BASE + [taking, ("back", B)])
            self.check_takings(mine, [((0, 6), B, (0, 7))])
            yours = heard_by(1, two_hands([taking], []), ("back", B))
            self.check_takings(yours, [((0, 6), B, (1, 1))])

    def test_a_back_that_has_heard_of_it_by_another_one(self):
        ready = [
            (0, (1, 0, 0), put("a")), (0, (2, 0, 0), ("take", A)), (1, (2, 1, 0), ("none",)),
            (2, (2, 1, 1), ("back", A)),
        ]
        self.check_takings(ready, [((0, 2), A, (2, 1))])

    def test_a_back_of_another_item(self):
        for other in [A, C, D]:
            self.check_takings(by_one_hand(BASE + [("take", B), ("back", other)]), [((0, 6), B, None)])
        # A join takes the other one away, so a back of the first gainsays nothing.
        self.check_takings(by_one_hand(BASE + [("join", A, B), ("back", A)]), [((0, 6), B, None)])

    def test_a_back_ahead_of_it(self):
        self.check_takings(by_one_hand(BASE + [("back", B), ("take", B)]), [((0, 7), B, None)])

    def test_a_back_gainsays_all_takings_of_which_it_has_heard(self):
        ready = by_one_hand(BASE + [("take", B), ("join", A, B), ("back", B), ("take", B)])
        self.check_takings(ready, [((0, 6), B, (0, 8)), ((0, 7), B, (0, 8)), ((0, 9), B, None)])

    def test_a_back_that_is_off_or_gave_way(self):
        self.check_takings(by_one_hand(BASE + [("take", B), ("back", B), ("off", 7)]), [((0, 6), B, None)])
        self.check_takings(by_one_hand(BASE + [("take", B), ("back", (0, 5))]), [((0, 6), B, None)])

    def test_a_back_apart_that_touches_nothing_beneath(self):
        for other in [A, D]:
            self.check_takings(two_hands([("take", B)], [("back", other)]), [((0, 6), B, None)])

    def test_a_back_apart_that_touches_it_or_beneath(self):
        for item in [B, C]:
            self.check_takings(two_hands([("take", B)], [("back", item)]), [((0, 6), B, (1, 1))])


class TestTouching(Checked):

    def test_each_word_that_touches_the_item_or_one_beneath_it(self):
        for item, taking in [(B, ("take", B)), (B, ("join", A, B)), (B, ("join", D, B)), (C, ("take", B))]:
            for what in [
                ("move", item, B if item == C else A, (5,)), ("write", item, "x"), ("mark", item, True),
                ("mark", item, False), ("due", item, 1), ("due", item, None), ("fold", item, True), ("back", item),
                ("part", item, 0, (5,)), ("put", item, (0,), "x"),
            ]:
                self.check_takings(two_hands([taking], [what]), [((0, 6), B, (1, 1))])

    def test_none_of_them_beside_it(self):
        for item in [A, D]:
            for what in [
                ("write", item, "x"), ("mark", item, True), ("due", item, 1), ("fold", item, True), ("back", item),
                ("part", item, 1, (5,)), ("put", item, (0,), "x"), ("move", item, None, (7,)),
            ]:
                self.check_takings(two_hands([("take", B)], [what]), [((0, 6), B, None)])

    def test_a_join_touches_both(self):
        self.check_takings(two_hands([("take", D)], [("join", D, A)]), [((0, 6), D, (1, 1)), ((1, 1), A, None)])
        self.check_takings(two_hands([("take", D)], [("join", A, D)]), [((0, 6), D, (1, 1)), ((1, 1), D, None)])

    def test_a_part_touches_its_own_item(self):
        # The new item is moved beneath what is taken away, while the parted one is not there.
        ready = in_order([
            (0, (1, 0), put("ab")), (0, (2, 0), put("c")), (1, (2, 1), ("part", A, 1, (5,))),
            (0, (3, 0), ("take", B)), (1, (2, 2), ("none",)), (1, (2, 3), ("move", (1, 1), B, (0,))),
        ])
        self.check_takings(ready, [((0, 3), B, (1, 1))])

    def test_a_part_touches_the_item(self):
        ready = two_hands([("take", B)], [("part", B, 0, (5,)), ("move", (1, 1), None, (0,))])
        self.check_takings(ready, [((0, 6), B, (1, 1))])

    def test_a_put_touches_its_own_item_alone(self):
        ready = two_hands([("take", B)], [("put", B, (0,), "x"), ("move", (1, 1), None, (0,))])
        self.check_takings(ready, [((0, 6), B, None)])
        ready = two_hands([("take", B)], [("put", None, (0,), "x"), ("move", (1, 1), B, (0,))])
        self.check_takings(ready, [((0, 6), B, (1, 1))])

    def test_a_move_touches_the_item_and_not_its_up(self):
        self.check_takings(two_hands([("take", B)], [("move", D, B, (0,))]), [((0, 6), B, (1, 1))])
        # Moved beneath and out again: it is not beneath when all steps are taken.
        ready = two_hands([("take", B)], [("move", D, B, (0,)), ("move", D, None, (0,))])
        self.check_takings(ready, [((0, 6), B, None)])

    def test_moved_there_by_another_one(self):
        ready = two_hands([("take", D)], [("write", C, "x")])
        self.check_takings(ready, [((0, 6), D, None)])
        moved = heard_by(0, ready, ("move", C, D, (0,)))
        self.check_takings(moved, [((0, 6), D, (1, 1))])

    def test_moved_out_of_there_by_another_one(self):
        ready = two_hands([("take", B)], [("write", C, "x")])
        self.check_takings(ready, [((0, 6), B, (1, 1))])
        moved = heard_by(0, ready, ("move", C, None, (0,)))
        self.check_takings(moved, [((0, 6), B, None)])

    def test_joined_out_of_there(self):
        # What is beneath the joined one comes beneath the first, and is not taken away.
        self.check_takings(two_hands([("join", A, B)], [("write", C, "x")]), [((0, 6), B, None)])
        self.check_takings(two_hands([("join", A, B)], [("put", B, (0,), "x")]), [((0, 6), B, (1, 1))])

    def test_many_deep(self):
        base = [put()] + [put("x", (0, number)) for number in range(1, 20)]
        ready = two_hands([("take", A)], [("mark", (0, 20), True)], base)
        self.check_takings(ready, [((0, 21), A, (1, 1))])

    def test_words_that_touch_nothing(self):
        for yours in [
            [("take", B)], [("take", C)], [("none",)], [("none",), ("off", 1)], [("none",), ("on", 1)],
        ]:
            ready = two_hands([("take", B)], yours)
            self.assertEqual(takings_of(ready)[0], ((0, 6), B, None))
            self.assertEqual([by for name, item, by in takings_of(ready) if by is not None], [])

    def test_takes_apart_of_the_same_item_both_stand(self):
        self.check_takings(two_hands([("take", B)], [("take", B)]), [((0, 6), B, None), ((1, 1), B, None)])

    def test_joins_apart_of_the_same_item_gainsay_one_another(self):
        self.check_takings(
            two_hands([("join", A, D)], [("join", B, D)]), [((0, 6), D, (1, 1)), ((1, 1), D, (0, 6))],
        )

    def test_what_is_off_or_gave_way_touches_nothing(self):
        base = BASE[:4] + [put("e")]
        for yours in [
            [("write", B, "x"), ("off", 1)], [("put", B, (0,), "x"), ("off", 1)], [("join", B, A)],
            [("move", B, C, (0,))], [("part", B, 9, (0,))], [("move", B, (0, 5), (0,))], [("join", B, (0, 5))],
        ]:
            self.check_takings(two_hands([("off", 5), ("take", B)], yours, base), [((0, 7), B, None)])

    def test_a_put_of_the_word_top_touches(self):
        # Its UP is not there, so it stands at the top, where it is moved beneath what is taken away.
        ready = two_hands([("take", B)], [("put", (0, 5), (0,), "x"), ("move", (1, 1), B, (0,)), ("none",)])
        self.assertEqual(dict(words_of(ready))[(1, 1)], "top")
        self.check_takings(ready, [((0, 6), B, (1, 1))])

    def test_a_deed_that_has_heard_of_it(self):
        for what in [
            ("write", B, "x"), ("mark", C, True), ("put", B, (0,), "x"), ("part", B, 0, (0,)), ("join", B, D),
            ("move", B, None, (0,)), ("back", C), ("due", B, 0), ("fold", B, True),
        ]:
            for ready in [by_one_hand(BASE + [("take", B), what]), heard_by(1, two_hands([("take", B)], []), what)]:
                self.assertEqual(takings_of(ready)[0], ((0, 6), B, None))

    def test_a_deed_of_which_it_has_heard(self):
        for what in [("write", B, "x"), ("mark", C, True), ("put", B, (0,), "x"), ("back", C), ("back", B)]:
            ready = by_turns([(0, each) for each in BASE] + [(1, what), (0, ("take", B))])
            self.check_takings(ready, [((0, 6), B, None)])

    def test_the_first_such_deed(self):
        ready = two_hands([("take", B)], [("mark", D, True), ("mark", C, True), ("mark", B, True)])
        self.check_takings(ready, [((0, 6), B, (1, 2))])
        # One that touches, ahead of a back that has heard of it; and the other way round.
        ready = heard_by(0, two_hands([("take", B)], [("mark", C, True)]), ("back", B))
        self.check_takings(ready, [((0, 6), B, (1, 1))])
        ready = two_hands([("take", B), ("back", B)], [("none",)] * 2 + [("mark", C, True)])
        self.check_takings(ready, [((0, 6), B, (0, 7))])

    def test_the_first_such_deed_may_stand_ahead_of_it(self):
        ready = two_hands([("none",), ("none",), ("take", B)], [("mark", C, True)])
        self.assertLess([name_of(deed) for deed in ready].index((1, 1)), len(ready) - 1)
        self.check_takings(ready, [((0, 8), B, (1, 1))])

    def test_of_like_sums_the_hand_of_the_less_number_is_first(self):
        base = [(2, (0, 0, 1), put())]
        deeds = base + [
            (2, (0, 0, 2), ("take", (2, 1))), (1, (0, 1, 1), ("mark", (2, 1), True)),
            (0, (1, 0, 1), ("mark", (2, 1), True)),
        ]
        self.check_takings(in_order(deeds), [((2, 2), (2, 1), (0, 1))])


class TestReport(Checked):

    def test_each_word_with_none(self):
        ready = by_one_hand([
            put("abc"), put("b", (0, 1)), ("none",), put("c", (0, 3)), ("write", (0, 3), "x"),
            ("move", (0, 1), (0, 2), (0,)), ("part", (0, 1), 4, (0,)), ("off", 3), ("on", 3), ("off", 8),
            ("take", (0, 2)), ("back", (0, 4)), ("join", (0, 4), (0, 1)), ("mark", (0, 4), True),
        ])
        self.check_report(ready, {
            (0, 4): ("top", None), (0, 5): ("none", None), (0, 6): ("beneath", None), (0, 7): ("far", None),
            (0, 10): ("turn", None),
        })

    def test_off(self):
        ready = by_one_hand(BASE + [("off", 1)])
        self.check_report(ready, {(0, 1): ("off", (0, 6)), (0, 2): ("top", None)})

    def test_off_by_the_last_off(self):
        ready = by_one_hand(BASE + [("off", 4), ("off", 4)])
        self.check_report(ready, {(0, 4): ("off", (0, 7))})
        ready = by_one_hand(BASE + [("off", 4), ("on", 4), ("off", 4), ("off", 3)])
        self.check_report(ready, {(0, 4): ("off", (0, 8)), (0, 3): ("off", (0, 9))})

    def test_off_by_its_own_hand(self):
        ready = by_turns([(0, put("a")), (1, put("b")), (1, ("off", 1)), (0, ("none",)), (0, ("on", 1))])
        self.check_report(ready, {(1, 1): ("off", (1, 2))})

    def test_a_taking_that_is_off_is_off_alone(self):
        ready = two_hands([("take", B), ("off", 6)], [("write", B, "x")])
        self.check_report(ready, {(0, 6): ("off", (0, 7))})

    def test_kept(self):
        for taking in [("take", B), ("join", D, B)]:
            ready = two_hands([taking], [("write", B, "x"), ("write", B, "y")])
            self.check_report(ready, {(0, 6): ("kept", (1, 1))})
            self.check_report(by_one_hand(BASE + [taking, ("back", B)]), {(0, 6): ("kept", (0, 7))})
            self.check_report(by_one_hand(BASE + [taking]), {})

    def test_over_for_each_of_the_five_words(self):
        for mine, yours in [
            (("move", D, A, (0,)), ("move", D, None, (7,))), (("write", D, "x"), ("write", D, "y")),
            (("mark", D, True), ("mark", D, False)), (("due", D, 0), ("due", D, None)),
            (("fold", D, True), ("fold", D, False)),
        ]:
            self.check_report(two_hands([mine], [yours]), {(0, 6): ("over", (1, 1))})
            self.check_report(two_hands([mine], [mine]), {(0, 6): ("over", (1, 1))})
            # The first of hand 1 stands ahead of the second of hand 0, which comes over it.
            self.check_report(two_hands([("none",), mine], [yours]), {(1, 1): ("over", (0, 7))})

    def test_no_other_word_is_over(self):
        for mine, yours in [
            (("part", D, 0, (0,)), ("part", D, 0, (0,))), (("back", D), ("back", D)),
            (("put", D, (0,), "x"), ("put", D, (0,), "x")), (("take", D), ("take", D)), (("none",), ("none",)),
        ]:
            self.check_report(two_hands([mine], [yours]), {})

    def test_the_first_such_deed(self):
        ready = two_hands([("write", D, "x")], [("mark", D, True), ("write", D, "y"), ("write", D, "z")])
        self.check_report(ready, {(0, 6): ("over", (1, 2))})

    def test_one_that_is_over_another_and_itself_over(self):
        deeds = [(0, (1, 0, 0), put("a"))] + [
            (0, (2, 0, 0), ("write", A, "x")), (1, (1, 1, 0), ("write", A, "y")), (2, (1, 0, 1), ("write", A, "z")),
        ]
        self.check_report(in_order(deeds), {(0, 2): ("over", (1, 1)), (1, 1): ("over", (2, 1))})

    def test_not_where_the_later_one_has_heard_of_it(self):
        self.check_report(by_one_hand(BASE + [("write", D, "x"), ("write", D, "y")]), {})
        self.check_report(heard_by(1, two_hands([("write", D, "x")], []), ("write", D, "y")), {})

    def test_one_has_heard_and_the_next_one_has_not(self):
        ready = in_order([
            (0, (1, 0, 0), put("a")), (0, (2, 0, 0), ("write", A, "x")), (1, (2, 1, 0), ("write", A, "y")),
            (2, (1, 0, 1), ("none",)), (2, (1, 0, 2), ("none",)), (2, (1, 0, 3), ("write", A, "z")),
        ])
        self.check_report(ready, {(0, 2): ("over", (2, 3)), (1, 1): ("over", (2, 3))})

    def test_not_for_another_word_or_item(self):
        self.check_report(two_hands([("write", D, "x")], [("write", A, "y"), ("mark", D, True), ("fold", D, True)]), {})
        self.check_report(two_hands([("mark", D, True)], [("fold", D, True), ("due", D, 1)]), {})
        # The same UP is not the same item.
        self.check_report(two_hands([("move", C, D, (0,))], [("move", B, D, (0,))]), {})

    def test_not_by_one_that_gave_way_or_is_off(self):
        self.check_report(
            two_hands([("move", B, D, (0,))], [("move", B, C, (0,))]), {(1, 1): ("beneath", None)},
        )
        self.check_report(
            two_hands([("write", D, "x")], [("write", D, "y"), ("off", 1)]), {(1, 1): ("off", (1, 2))},
        )
        ready = two_hands([("write", D, "x")], [("write", D, "y"), ("off", 1), ("write", D, "z")])
        self.check_report(ready, {(1, 1): ("off", (1, 2)), (0, 6): ("over", (1, 3))})

    def test_one_that_gave_way_is_not_over(self):
        self.check_report(
            two_hands([("move", B, C, (0,))], [("move", B, D, (0,))]), {(0, 6): ("beneath", None)},
        )

    def test_a_deed_ahead_of_it_in_the_order(self):
        self.check_report(two_hands([("write", D, "x")], [("none",), ("write", D, "y")]), {(0, 6): ("over", (1, 2))})
        self.check_report(two_hands([("none",), ("write", D, "x")], [("write", D, "y")]), {(1, 1): ("over", (0, 7))})

    def test_it_may_touch_and_be_over(self):
        deeds = [(0, (1, 0, 0), put("a"))] + [
            (0, (2, 0, 0), ("take", A)), (1, (1, 1, 0), ("write", A, "y")), (2, (1, 0, 1), ("write", A, "z")),
        ]
        self.check_report(in_order(deeds), {(0, 2): ("kept", (1, 1)), (1, 1): ("over", (2, 1))})


class TestHistory(Checked):

    def check_history(self, ready, gone):
        with self.subTest(ready=ready):
            self.check_ready(ready)
            history = history_of(ready)
            self.assertEqual(history, steps_of(ready) + gone)
            self.assertIs(lets_by([step for name, step in history]), True)
            outline = Plain()
            for name, step in history:
                outline.step(step)
            self.assertEqual(all_of(outline_of(ready)), all_of(outline))

    def test_steps_then_the_gone_ones(self):
        ready = by_one_hand(BASE + [("take", B), ("write", A, "x"), ("join", A, D)])
        self.check_history(ready, [((0, 6), ("gone", B)), ((0, 8), ("gone", D))])
        self.assertEqual(outline_of(ready).rows(), [(0, A, "xd", False, None, False)])

    def test_each_item_once_by_the_first(self):
        ready = two_hands([("take", B), ("take", B)], [("take", B), ("take", D)])
        self.check_history(ready, [((0, 6), ("gone", B)), ((1, 2), ("gone", D))])

    def test_by_the_first_that_stands(self):
        ready = by_one_hand(BASE + [("take", B), ("back", B), ("take", B), ("join", A, B)])
        self.check_history(ready, [((0, 8), ("gone", B))])

    def test_in_the_order_of_the_deeds(self):
        ready = by_one_hand(BASE + [("take", D), ("take", B), ("take", A)])
        self.check_history(ready, [((0, 6), ("gone", D)), ((0, 7), ("gone", B)), ((0, 8), ("gone", A))])
        self.assertEqual(outline_of(ready).rows(), [])

    def test_what_is_kept_is_not_gone(self):
        ready = two_hands([("take", A), ("take", D)], [("write", C, "x")])
        self.check_history(ready, [((0, 7), ("gone", D))])
        self.assertEqual(names_told(ready), [A, B, C])

    def test_kept_beneath_one_that_is_gone(self):
        ready = by_one_hand(BASE + [("take", A), ("take", B), ("back", B)])
        self.check_history(ready, [((0, 6), ("gone", A))])
        self.assertEqual(names_told(ready), [D])

    def test_put_beneath_a_gone_one_by_one_that_has_heard_of_it(self):
        ready = by_one_hand(BASE + [("take", A), put("x", A)])
        self.check_history(ready, [((0, 6), ("gone", A))])
        self.assertEqual(names_told(ready), [D])

    def test_moved_out_of_a_gone_one(self):
        ready = by_one_hand(BASE + [("take", A), ("move", C, None, (3,))])
        self.check_history(ready, [((0, 6), ("gone", A))])
        self.assertEqual(names_told(ready), [D, C])

    def test_two_joins_apart_lose_no_text(self):
        ready = two_hands([("join", A, D)], [("join", B, D)])
        self.check_history(ready, [])
        self.assertEqual([row[1:3] for row in outline_of(ready).rows()], [(A, "ad"), (B, "b"), (C, "c"), (D, "")])


class TestLists(unittest.TestCase):

    def test_the_list_handed_in_stays_and_those_told_are_new(self):
        ready = in_order(some_deeds(71, 3, 40))
        for ask in [takings_of, report_of, history_of]:
            check_lists(self, ask, ready)
            for row in ask(ready):
                self.assertIs(type(row), tuple)
                self.assertEqual(kinds_of(row[0]), (tuple, [int, int]))

    def test_the_outline_is_a_new_one(self):
        ready = in_order(some_deeds(72, 3, 40))
        one, other = outline_of(ready), outline_of(ready)
        self.assertIsInstance(one, Plain)
        before = all_of(other)
        one.step(("put", (9, 9), None, (0,), "x"))
        one.step(("gone", one.names()[0]))
        self.assertEqual(all_of(other), before)
        self.assertEqual(all_of(outline_of(ready)), before)


class Model:
    """[23] to [26], told apart from the program."""

    def __init__(self, ready):
        self.ready = ready
        self.words = dict(words_of(ready))
        whole = Plain()
        for name, step in steps_of(ready):
            whole.step(step)
        self.ups = {name: whole.item(name)[0] for name in whole.names()}

    def chain(self, name):
        return [] if name is None else [name] + self.chain(self.ups[name])

    def knows(self, deed, other):
        hand, number = name_of(other)
        return name_of(deed) != (hand, number) and deed[1][hand] >= number

    def is_apart(self, one, other):
        return one != other and not self.knows(one, other) and not self.knows(other, one)

    def touched(self, deed):
        own = name_of(deed)
        return {
            "put": lambda what: [own], "part": lambda what: [what[1], own], "join": lambda what: list(what[1:]),
            "take": lambda what: [], "off": lambda what: [], "on": lambda what: [], "none": lambda what: [],
        }.get(deed[2][0], lambda what: [what[1]])(deed[2])

    def gainsayers(self, taking):
        item = taking[2][-1]
        for deed in self.ready:
            if self.words[name_of(deed)] not in ("done", "top"):
                continue
            heard_back = deed[2] == ("back", item) and self.knows(deed, taking)
            touching = [each for each in self.touched(deed) if item in self.chain(each)]
            if heard_back or self.is_apart(deed, taking) and touching:
                yield name_of(deed)

    def takings(self):
        return [
            (name_of(deed), deed[2][-1], next(self.gainsayers(deed), None)) for deed in self.ready
            if deed[2][0] in ("take", "join") and self.words[name_of(deed)] == "done"
        ]

    def by(self, at):
        deed = self.ready[at]
        name, word = name_of(deed), self.words[name_of(deed)]
        if word == "off":
            return "off", [name_of(each) for each in self.ready if each[::2] == (name[0], ("off", name[1]))][-1]
        for taking, item, by in self.takings():
            if taking == name and by is not None:
                return "kept", by
        if word == "done" and deed[2][0] in ("move", "write", "mark", "due", "fold"):
            for later in self.ready[at + 1:]:
                if self.words[name_of(later)] == "done" and later[2][:2] == deed[2][:2]:
                    if self.is_apart(deed, later):
                        return "over", name_of(later)
        return word, None

    def report(self):
        return [(name_of(deed),) + self.by(at) for at, deed in enumerate(self.ready)]


class TestByChance(unittest.TestCase):

    def test_takings_and_report_are_those_of_the_model(self):
        seen = {}
        for seed in range(150):
            ready = in_order(some_deeds(seed, 1 + seed % 4, 50, seed % 3 > 0))
            model = Model(ready)
            self.assertEqual(takings_of(ready), model.takings())
            self.assertEqual(report_of(ready), model.report())
            for name, word, by in report_of(ready):
                seen[word] = seen.get(word, 0) + 1
        self.assertEqual(sorted(seen), sorted("off none beneath far top turn done kept over".split()))
        self.assertGreater(min(seen.values()), 20)

    def test_each_history_is_taken_step_by_step(self):
        for seed in range(40):
            ready = in_order(some_deeds(seed, 3, 60, seed % 2 > 0))
            outline = Plain()
            for name, step in history_of(ready):
                outline.step(step)
            self.assertEqual(all_of(outline), all_of(outline_of(ready)))

    def test_what_was_put_stands_unless_a_taking_stands(self):
        for seed in range(40):
            ready = in_order(some_deeds(seed, 3, 60, seed % 2 > 0))
            outline = outline_of(ready)
            shown = [row[1] for row in outline.rows()]
            gone = [item for name, item, by in takings_of(ready) if by is None]
            for name in outline.names():
                above = [each for each in gone if each == name or outline.beneath(name, each)]
                self.assertIs(name in shown, above == [])

    def test_the_same_in_whatever_order_they_came(self):
        deeds = some_deeds(73, 4, 60, True)
        asks = [takings_of, report_of, history_of, lambda ready: all_of(outline_of(ready))]
        told = [ask(ready_of(deeds)) for ask in asks]
        chance = random.Random(73)
        for each in range(5):
            ready = ready_of(chance.sample(deeds, 60))
            self.assertEqual([ask(ready) for ask in asks], told)

    def test_three_hundred_deeds(self):
        ready = in_order(some_deeds(74, 8, 300))
        self.assertEqual(len(report_of(ready)), 300)
        self.assertIs(lets_by([step for name, step in history_of(ready)]), True)


if __name__ == "__main__":
    unittest.main()
