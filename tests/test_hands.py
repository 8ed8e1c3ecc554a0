import random
import unittest

from limb.clocks import raised
from limb.errors import NoDeed, NoItem, NoPlace, Twin
from limb.hands import Hand
from limb.plain import Plain
from limb.stores import Store
from limb.takes import outline_of, report_of
from samples import EIGHT_HANDS, ODD_THINGS, ONE_HAND, all_of, kinds_of, names_in, none_deed, put, some_what

A, B, C, D = (0, 1), (0, 2), (0, 3), (0, 4)


def hand_of(whats, hands=1, me=0):
    hand = Hand(hands, me)
    for what in whats:
        hand.do(what)
    return hand


def state_of(hand):
    """All that a hand tells of itself."""
    return (
        hand.clock(), hand.ready(), hand.told((0,) * len(hand.clock())), all_of(hand.outline()), hand.report(),
    )


def texts_of(hand):
    return [row[2] for row in hand.outline().rows()]


class TestDo(unittest.TestCase):

    def test_nothing_at_first(self):
        hand = Hand(3, 1)
        self.assertEqual(state_of(hand), ((0, 0, 0), [], [], all_of(Plain()), []))

    def test_the_deed_is_told(self):
        hand = Hand(2, 1)
        self.assertEqual(hand.do(put("a")), (1, (0, 1), put("a")))
        self.assertEqual(hand.do(("mark", (1, 1), True)), (1, (0, 2), ("mark", (1, 1), True)))
        self.assertEqual(hand.clock(), (0, 2))
        self.assertEqual(hand.ready(), [(1, (0, 1), put("a")), (1, (0, 2), ("mark", (1, 1), True))])

    def test_its_clock_tells_of_all_that_is_ready(self):
        hand = Hand(3, 0)
        hand.hear(none_deed(2, (0, 0, 1)))
        hand.hear(none_deed(1, (0, 5, 1)))
        self.assertEqual(hand.do(("none",)), (0, (1, 0, 1), ("none",)))
        hand.hear(none_deed(2, (1, 0, 2)))
        self.assertEqual(hand.do(("none",)), (0, (2, 0, 2), ("none",)))

    def test_each_word(self):
        for deed in ONE_HAND:
            hand = hand_of([("none",)] * 4)
            self.assertEqual(hand.do(deed[2]), deed)
            self.assertEqual(kinds_of(hand.ready()[-1]), kinds_of(deed))
        for hands, me, clock, what in [(8, deed[0], deed[1], deed[2]) for deed in EIGHT_HANDS]:
            hand = Hand(hands, me)
            for other, count in enumerate(clock):
                for number in range(1, count + (other != me)):
                    hand.hear(none_deed(other, tuple(number if each == other else 0 for each in range(hands))))
            self.assertEqual(hand.do(what), (me, clock, what))

    def test_what_would_be_no_deed(self):
        wrong = ODD_THINGS + [
            ["none"], ("none", 1), ("put", None, (0,)), ("put", None, [0], "a"), ("put", None, (0,), "a" * 61),
            ("put", None, (0,), "a\tb"), ("mark", A, 1), ("write", (0, 3), "its own name"), ("write", (0, 4), "later"),
            ("write", (1, 1), "not known of"), ("write", (2, 1), "no such hand"), ("part", A, -1, (0,)), ("off", 3),
            ("off", 0), ("due", A, 2), ("fold", A, None), ("take", None), ("move", A, A, ()), ("halt",),
        ]
        hand = hand_of([put("a"), put("b")], 2)
        hand.hear(none_deed(1, (9, 2)))
        before = state_of(hand)
        for what in wrong:
            with self.subTest(what=what):
                self.assertRaises(NoDeed, hand.do, what)
                self.assertEqual(state_of(hand), before)
        self.assertEqual(hand.do(("none",)), (0, (3, 0), ("none",)))

    def test_twin(self):
        for waiting in [none_deed(0, (3, 1)), (0, (3, 1), put("c")), (0, (3, 2), ("write", (1, 2), "x"))]:
            hand = hand_of([put("a"), put("b")], 2)
            hand.hear(waiting)
            before = state_of(hand)
            for what in [("none",), put("c"), ("mark", A, True)]:
                with self.assertRaises(Twin) as caught:
                    hand.do(what)
                self.assertEqual(caught.exception.name, (0, 3))
                self.assertEqual(state_of(hand), before)

    def test_no_deed_ahead_of_twin(self):
        hand = hand_of([put("a"), put("b")], 2)
        hand.hear(none_deed(0, (3, 1)))
        self.assertRaises(NoDeed, hand.do, ("write", (1, 1), "x"))

    def test_no_twin_when_what_waited_is_ready(self):
        hand = hand_of([put("a"), put("b")], 2)
        hand.hear(none_deed(0, (3, 1)))
        hand.hear(none_deed(1, (0, 1)))
        self.assertEqual(hand.do(("none",)), (0, (4, 1), ("none",)))

    def test_a_later_one_that_waits_is_no_twin(self):
        hand = hand_of([put("a"), put("b")], 2)
        hand.hear(none_deed(0, (5, 0)))
        self.assertEqual(hand.do(("none",)), (0, (3, 0), ("none",)))
        self.assertEqual(hand.do(("none",)), (0, (4, 0), ("none",)))
        self.assertEqual(hand.clock(), (5, 0))


class TestAsOfAStore(unittest.TestCase):

    def test_hear_told_clock_ready(self):
        hand, store = Hand(2, 0), Store(2)
        for deed in [
            none_deed(1, (1, 2)), none_deed(1, (0, 1)), none_deed(0, (2, 2)), none_deed(0, (1, 1)),
            none_deed(1, (0, 1)), none_deed(0, (4, 2)),
        ]:
            self.assertIs(hand.hear(deed), store.hear(deed))
            self.assertEqual(hand.clock(), store.clock())
            self.assertEqual(hand.ready(), store.ready())
            for clock in [(0, 0), (1, 1), (0, 2), (9, 9)]:
                self.assertEqual(hand.told(clock), store.told(clock))

    def test_what_is_refused(self):
        hand = hand_of([put("a")], 2)
        before = state_of(hand)
        for thing in ODD_THINGS + [none_deed(0, (1,)), none_deed(2, (1, 1, 1))]:
            self.assertRaises(NoDeed, hand.hear, thing)
        with self.assertRaises(Twin) as caught:
            hand.hear((0, (1, 0), put("b")))
        self.assertEqual(caught.exception.name, (0, 1))
        self.assertEqual(state_of(hand), before)

    def test_lists_are_the_askers_own(self):
        hand = hand_of([put("a"), ("write", A, "b"), ("take", A)])
        for ask in [hand.ready, hand.report, lambda: hand.told((0,)), lambda: hand.outline().rows()]:
            before = ask()
            kept = list(before)
            ask().clear()
            self.assertEqual(ask(), kept)
            self.assertIsNot(ask(), ask())
        report, ready = hand.report(), hand.ready()
        told = (list(report), list(ready))
        hand.do(("back", A))
        self.assertEqual((report, ready), told)

    def test_outline_is_a_new_one(self):
        hand = hand_of([put("a")])
        outline = hand.outline()
        before = all_of(outline)
        self.assertIsInstance(outline, Plain)
        hand.do(put("b"))
        self.assertEqual(all_of(outline), before)
        hand.outline().step(("gone", A))
        self.assertEqual(texts_of(hand), ["a", "b"])

    def test_outline_and_report_are_of_the_ready_ones(self):
        hand = hand_of([put("a"), ("take", A), put("b", None, (1,))], 2)
        hand.hear((1, (1, 2), ("write", A, "x")))
        self.assertEqual(texts_of(hand), ["b"])
        self.assertEqual(hand.report(), [(A, "done", None), (B, "done", None), (C, "done", None)])
        hand.hear((1, (0, 1), ("none",)))
        self.assertEqual(texts_of(hand), ["x", "b"])
        self.assertEqual(hand.report()[1:3], [((1, 1), "done", None), ((0, 2), "kept", (1, 2))])
        self.assertEqual(all_of(hand.outline()), all_of(outline_of(hand.ready())))
        self.assertEqual(hand.report(), report_of(hand.ready()))


class TestMeetWith(unittest.TestCase):

    def test_another_one(self):
        one, other = hand_of([put("a"), put("b")], 2), hand_of([put("c")], 2, 1)
        self.assertEqual(one.meet_with(other), (1, 2))
        self.assertEqual(state_of(one), state_of(other))
        self.assertEqual(one.clock(), (2, 1))
        self.assertEqual(one.meet_with(other), (0, 0))
        other.do(("mark", A, True))
        self.assertEqual(other.meet_with(one), (0, 1))
        self.assertEqual(other.do(("none",)), (1, (2, 3), ("none",)))

    def test_itself(self):
        hand = hand_of([put("a")], 2)
        hand.hear(none_deed(1, (2, 1)))
        before = state_of(hand)
        self.assertEqual(hand.meet_with(hand), (0, 0))
        self.assertEqual(state_of(hand), before)

    def test_what_waits_is_told_too(self):
        one, other = Hand(2, 0), Hand(2, 1)
        one.hear(none_deed(1, (0, 3)))
        self.assertEqual(one.meet_with(other), (0, 1))
        self.assertEqual(other.clock(), (0, 0))


class TestUndo(unittest.TestCase):

    def test_none_to_be_turned(self):
        for whats in [[], [("none",)], [("none",), ("off", 1)], [("none",), ("on", 1)], [put(), ("off", 1)]]:
            hand = hand_of(whats)
            before = state_of(hand)
            self.assertIsNone(hand.undo())
            self.assertEqual(state_of(hand), before)

    def test_none_to_be_turned_on(self):
        for whats in [[], [put()], [("none",)], [put(), ("off", 1), ("on", 1)], [put(), ("on", 1), ("off", 2)]]:
            hand = hand_of(whats)
            before = state_of(hand)
            self.assertIsNone(hand.redo())
            self.assertEqual(state_of(hand), before)

    def test_one_after_the_other(self):
        hand = hand_of([put("a"), put("b", None, (1,)), put("c", None, (2,))])
        for number, texts in [(3, ["a", "b"]), (2, ["a"]), (1, [])]:
            self.assertEqual(hand.undo()[2], ("off", number))
            self.assertEqual(texts_of(hand), texts)
        self.assertIsNone(hand.undo())
        for number, texts in [(1, ["a"]), (2, ["a", "b"]), (3, ["a", "b", "c"])]:
            self.assertEqual(hand.redo()[2], ("on", number))
            self.assertEqual(texts_of(hand), texts)
        self.assertIsNone(hand.redo())
        self.assertEqual(hand.undo(), (0, (10,), ("off", 3)))
        self.assertEqual(hand.redo(), (0, (11,), ("on", 3)))

    def test_the_deed_is_told_with_its_clock(self):
        hand = hand_of([put("a")], 3, 2)
        hand.hear(none_deed(0, (1, 0, 0)))
        self.assertEqual(hand.undo(), (2, (1, 0, 2), ("off", 1)))
        self.assertEqual(hand.redo(), (2, (1, 0, 3), ("on", 1)))
        self.assertEqual(hand.clock(), (1, 0, 3))

    def test_with_deeds_between(self):
        hand = hand_of([put("a"), put("b")])
        self.assertEqual(hand.undo()[2], ("off", 2))
        hand.do(put("c"))
        self.assertEqual(hand.undo()[2], ("off", 4))
        self.assertEqual(hand.undo()[2], ("off", 1))
        self.assertEqual(hand.redo()[2], ("on", 1))
        self.assertEqual(hand.redo()[2], ("on", 4))
        hand.do(put("d"))
        self.assertEqual(hand.redo()[2], ("on", 2))
        self.assertIsNone(hand.redo())
        self.assertEqual(sorted(texts_of(hand)), ["a", "b", "c", "d"])

    def test_undo_passes_over_offs_ons_and_nones(self):
        hand = hand_of([put("a"), put("b"), ("none",), ("off", 2), ("on", 2), ("none",)])
        self.assertEqual(hand.undo()[2], ("off", 2))
        self.assertEqual(hand.undo()[2], ("off", 1))
        self.assertIsNone(hand.undo())

    def test_undo_turns_off_what_gave_way_too(self):
        for what in [("write", C, "x"), ("move", A, A, (0,)), ("part", A, 9, (0,)), ("take", C), put("x", C)]:
            hand = hand_of([put("a"), put("b"), ("none",), what])
            self.assertEqual(hand.undo()[2], ("off", 4))

    def test_undo_of_each_word(self):
        for what in [
            ("move", A, B, (0,)), ("write", A, "x"), ("mark", A, True), ("due", A, 0), ("fold", A, True),
            ("part", A, 1, (0,)), ("join", A, B), ("take", A), ("back", A), put("x", A),
        ]:
            hand = hand_of([put("a"), put("b")])
            rows = hand.outline().rows()
            hand.do(what)
            after = hand.outline().rows()
            self.assertEqual(hand.undo()[2], ("off", 3))
            self.assertEqual(hand.outline().rows(), rows)
            self.assertEqual(hand.redo()[2], ("on", 3))
            self.assertEqual(hand.outline().rows(), after)

    def test_redo_takes_the_one_whose_last_off_has_the_greatest_number(self):
        hand = hand_of([put("a"), put("b"), put("c"), ("off", 3), ("off", 1), ("off", 2)])
        self.assertEqual([hand.redo()[2] for each in range(3)], [("on", 2), ("on", 1), ("on", 3)])
        hand = hand_of([put("a"), put("b"), ("off", 1), ("off", 2), ("off", 1)])
        self.assertEqual([hand.redo()[2] for each in range(2)], [("on", 1), ("on", 2)])
        hand = hand_of([put("a"), put("b"), put("c"), ("off", 2), ("off", 1), ("off", 3), ("on", 3)])
        self.assertEqual([hand.redo()[2] for each in range(2)], [("on", 1), ("on", 2)])
        numbers = list(range(1, 12))
        hand = hand_of([put()] * 11 + [("off", number) for number in numbers])
        self.assertEqual([hand.redo()[2] for each in numbers], [("on", number) for number in reversed(numbers)])

    def test_only_its_own(self):
        hand = Hand(2, 0)
        hand.hear((1, (0, 1), put("a")))
        hand.hear((1, (0, 2), put("b")))
        hand.hear((1, (0, 3), ("off", 1)))
        self.assertIsNone(hand.undo())
        self.assertIsNone(hand.redo())
        hand.do(put("c", (1, 2)))
        hand.hear((1, (0, 4), ("write", (1, 2), "x")))
        self.assertEqual(hand.undo(), (0, (2, 4), ("off", 1)))
        hand.hear((1, (0, 5), ("off", 4)))
        self.assertEqual(hand.redo(), (0, (3, 5), ("on", 1)))
        self.assertIsNone(hand.redo())

    def test_only_what_is_ready(self):
        hand = hand_of([put("a")], 2)
        hand.hear((0, (3, 0), put("waits")))
        self.assertEqual(hand.undo(), (0, (2, 0), ("off", 1)))
        self.assertEqual(hand.clock(), (3, 0))
        self.assertEqual(hand.undo(), (0, (4, 0), ("off", 3)))
        hand = hand_of([put("a"), put("b")], 2)
        hand.hear((0, (4, 0), ("off", 2)))
        self.assertIsNone(hand.redo())

    def test_twin(self):
        hand = hand_of([put("a"), put("b"), ("off", 2)], 2)
        hand.hear(none_deed(0, (4, 1)))
        before = state_of(hand)
        for turn in [hand.undo, hand.redo]:
            with self.assertRaises(Twin) as caught:
                turn()
            self.assertEqual(caught.exception.name, (0, 4))
            self.assertEqual(state_of(hand), before)

    def test_none_to_be_turned_ahead_of_twin(self):
        hand = Hand(2, 0)
        hand.hear(none_deed(0, (1, 1)))
        self.assertIsNone(hand.undo())
        self.assertIsNone(hand.redo())

    def test_what_others_did_meanwhile_stands(self):
        one, other = hand_of([put("a"), put("b", A)], 2), Hand(2, 1)
        other.meet_with(one)
        one.undo()
        one.undo()
        other.do(("write", B, "x"))
        other.do(put("c", A, (9,)))
        one.meet_with(other)
        self.assertEqual(texts_of(one), ["c"])
        self.assertEqual(one.redo()[2], ("on", 1))
        self.assertEqual(one.redo()[2], ("on", 2))
        one.meet_with(other)
        for hand in [one, other]:
            self.assertEqual([row[::2][:2] for row in hand.outline().rows()], [(0, "a"), (1, "x"), (1, "c")])


class TestPlace(unittest.TestCase):

    def refused(self, error, hand, up, after):
        before = state_of(hand)
        with self.assertRaises(error) as caught:
            hand.place(up, after)
        self.assertEqual(state_of(hand), before)
        return caught.exception

    def test_where_nothing_stands(self):
        self.assertEqual(Hand(1, 0).place(None, None), (0,))
        self.assertEqual(hand_of([put("a", None, (7,))]).place(A, None), (0,))

    def test_ahead_of_all_and_behind_each(self):
        hand = hand_of([put("a", None, (5,)), put("b", None, (-3, 2)), put("c", None, (9, 9))])
        self.assertEqual(hand.place(None, None), (-4,))
        self.assertEqual(hand.place(None, B), (1,))
        self.assertEqual(hand.place(None, A), (7,))
        self.assertEqual(hand.place(None, C), (10,))

    def test_beneath_an_item(self):
        hand = hand_of([put("a", None, (50,)), put("b", A, (3,)), put("c", A, (4,)), put("d", B, (70,))])
        self.assertEqual(hand.place(A, None), (2,))
        self.assertEqual(hand.place(A, B), (3, 0))
        self.assertEqual(hand.place(A, C), (5,))
        self.assertEqual(hand.place(B, D), (71,))
        self.assertEqual(hand.place(D, None), (0,))
        self.assertEqual(hand.place(None, A), (51,))

    def test_places_of_several_numbers(self):
        hand = hand_of([put("a", None, (1,)), put("b", None, (1, 5)), put("c", None, (1, 6)), put("d", None, (2,))])
        self.assertEqual(hand.place(None, A), (1, 4))
        self.assertEqual(hand.place(None, B), (1, 5, 0))
        self.assertEqual(hand.place(None, C), (1, 7))
        self.assertEqual(hand.place(None, D), (3,))

    def test_like_places(self):
        hand = hand_of([put("a", None, (1,)), put("b", None, (1,)), put("c", None, (5,)), put("d", None, (5,))])
        self.assertEqual(hand.place(None, None), (0,))
        self.assertEqual(hand.place(None, A), (3,))
        self.assertEqual(hand.place(None, B), (3,))
        self.assertEqual(hand.place(None, C), (6,))
        self.assertEqual(hand.place(None, D), (6,))

    def test_with_items_of_other_hands(self):
        hand = hand_of([put("a", None, (1,)), put("b", None, (9,))], 2)
        hand.hear((1, (0, 1), put("c", None, (5,))))
        hand.hear((1, (0, 2), put("d", None, (-5,))))
        self.assertEqual(hand.place(None, A), (3,))
        self.assertEqual(hand.place(None, (1, 1)), (7,))
        self.assertEqual(hand.place(None, None), (-6,))
        hand.hear((1, (0, 4), put("waits", None, (2,))))
        self.assertEqual(hand.place(None, A), (3,))

    def test_with_gone_ones_between(self):
        hand = hand_of([
            put("a", None, (1,)), put("b", None, (2,)), put("c", None, (3,)), put("d", None, (0,)), ("take", B),
            ("take", D),
        ])
        self.assertEqual(hand.place(None, A), (2,))
        self.assertEqual(hand.place(None, None), (0,))
        hand.do(("take", C))
        self.assertEqual(hand.place(None, A), (2,))
        hand.do(("back", B))
        self.assertEqual(hand.place(None, A), (1, 0))

    def test_with_moved_ones_and_ones_that_are_off(self):
        hand = hand_of([put("a", None, (1,)), put("b", None, (3,)), put("c", None, (5,)), ("move", B, C, (0,))])
        self.assertEqual(hand.place(None, A), (3,))
        self.assertEqual(hand.place(C, B), (1,))
        hand.do(("off", 3))
        self.assertEqual(hand.place(None, A), (2,))

    def test_up_is_not_there_or_gone(self):
        hand = hand_of([
            put("a"), put("b", A), put("c", B), put("d"), ("take", A), ("none",), put("off"), ("off", 7),
        ])
        for up in [A, B, C, (0, 6), (0, 7), (0, 99), (5, 1), (0, 0)]:
            for after in [None, A, B, C, D, (0, 99), up]:
                self.assertEqual(self.refused(NoItem, hand, up, after).name, up)

    def test_the_item_is_not_there_or_gone_or_elsewhere(self):
        hand = hand_of([
            put("a"), put("b", A), put("c", B), put("d"), put("e"), ("take", (0, 5)), put("f", A), ("take", (0, 7)),
        ])
        for up, afters in [
            (None, [B, C, (0, 5), (0, 6), (0, 7), (0, 99), (5, 1), (0, 0)]), (A, [A, C, D, (0, 7), (0, 5), (0, 99)]),
            (B, [A, B, D, (0, 99)]), (C, [A, B, C, D]),
        ]:
            for after in afters:
                self.assertEqual(self.refused(NoItem, hand, up, after).name, after)

    def test_no_place(self):
        long = (0,) * 63
        hand = hand_of([put("a", None, long + (0,)), put("b", None, long + (1,)), put("c", None, (5,))])
        self.refused(NoPlace, hand, None, A)
        self.assertEqual(hand.place(None, B), (2,))
        self.assertEqual(hand.place(None, C), (6,))
        self.assertEqual(hand.place(None, None), (-1,))

    def test_it_stands_right_behind(self):
        chance = random.Random(81)
        hand = hand_of([put("0")])
        for number in range(60):
            lower = hand.outline().below(None)
            after = chance.choice([None] + lower)
            deed = hand.do(put(str(number), None, hand.place(None, after)))
            at = 0 if after is None else lower.index(after) + 1
            self.assertEqual(hand.outline().below(None), lower[:at] + [(0, deed[1][0])] + lower[at:])


class TestByChance(unittest.TestCase):

    def test_hands_that_meet_agree(self):
        for seed in range(6):
            chance = random.Random(seed)
            hands = [Hand(3, me) for me in range(3)]
            for each in range(40):
                hand = chance.choice(hands)
                clock = raised(hand.clock(), hand.me)
                chance.choice([
                    hand.undo, hand.redo, lambda: hand.meet_with(chance.choice(hands)),
                    lambda: hand.do(some_what(chance, hand.me, clock, names_in(hand.clock()))),
                    lambda: hand.do(some_what(chance, hand.me, clock, names_in(hand.clock()))),
                ])()
            for one in hands + hands:
                for other in hands:
                    one.meet_with(other)
            self.assertEqual(state_of(hands[0]), state_of(hands[1]))
            self.assertEqual(state_of(hands[0]), state_of(hands[2]))
            self.assertEqual(sum(hands[0].clock()), len(hands[0].ready()))


if __name__ == "__main__":
    unittest.main()
