import random
import unittest

from limb.clocks import start_clock, tells
from limb.deeds import name_of
from limb.errors import NoDeed, Twin
from limb.orders import ready_of
from limb.stores import Store, meet
from samples import EIGHT_HANDS, ODD_THINGS, ONE_HAND, in_order, none_deed, some_deeds

# Two hands: each deed has heard of the one ahead of it in this list.
CHAIN = [
    (0, (1, 0), ("put", None, (0,), "a")),
    (1, (1, 1), ("put", (0, 1), (0,), "b")),
    (0, (2, 1), ("write", (1, 1), "c")),
    (1, (2, 2), ("take", (0, 1))),
]


def store_of(deeds, hands=2):
    store = Store(hands)
    for deed in deeds:
        store.hear(deed)
    return store


def all_of(store):
    """All that a store tells of itself."""
    return store.ready(), store.waiting(), store.clock(), store.told(start_clock(len(store.clock())))


class TestHear(unittest.TestCase):

    def test_a_new_deed_and_once_more(self):
        for deed in ONE_HAND + EIGHT_HANDS:
            store = Store(len(deed[1]))
            self.assertIs(store.hear(deed), True)
            self.assertIs(store.hear(deed), False)
            self.assertIs(store.hear(tuple(list(deed))), False)
            self.assertEqual(store.told(start_clock(len(deed[1]))), [deed])

    def test_once_more_when_others_came(self):
        store = Store(2)
        for deed in CHAIN[::-1]:
            self.assertIs(store.hear(deed), True)
        for deed in CHAIN:
            self.assertIs(store.hear(deed), False)
        self.assertEqual(store.ready(), CHAIN)

    def test_what_is_no_deed(self):
        store = store_of([CHAIN[0], CHAIN[2]])
        before = all_of(store)
        things = ODD_THINGS + ONE_HAND + EIGHT_HANDS + [
            list(CHAIN[1]), (1, [1, 1], ("none",)), (1, (1, 1), ["none"]), (2, (1, 1), ("none",)),
            (1, (1, 0), ("none",)), (1, (1, 1), ("take", (1, 1))), (1, (1, 1), ("off", 1)),
            (1, (1, 1, 0), ("none",)), (1, (1, 1), ("mark", (0, 1), 1)), (1, (1, 1), ("put", None, (0,), "a\n")),
        ]
        for thing in things:
            with self.subTest(thing=thing):
                with self.assertRaises(NoDeed):
                    store.hear(thing)
                self.assertEqual(all_of(store), before)
        self.assertIs(store.hear(CHAIN[1]), True)

    def refuse_twin(self, store, deed):
        before = all_of(store)
        with self.subTest(deed=deed):
            with self.assertRaises(Twin) as caught:
                store.hear(deed)
            self.assertEqual(caught.exception.name, name_of(deed))
            self.assertEqual(all_of(store), before)

    def test_an_unlike_deed_of_a_ready_ones_name(self):
        store = store_of(CHAIN)
        self.refuse_twin(store, (0, (1, 0), ("put", None, (0,), "b")))
        self.refuse_twin(store, (0, (1, 0), ("put", None, (1,), "a")))
        self.refuse_twin(store, (0, (1, 1), ("put", None, (0,), "a")))
        self.refuse_twin(store, (1, (2, 2), ("back", (0, 1))))
        self.refuse_twin(store, (1, (2, 2), ("none",)))
        self.assertIs(store.hear(CHAIN[0]), False)

    def test_an_unlike_deed_of_a_waiting_ones_name(self):
        store = store_of(CHAIN[1:])
        self.assertEqual(store.ready(), [])
        self.refuse_twin(store, (0, (2, 0), ("none",)))
        self.refuse_twin(store, (1, (0, 1), ("none",)))
        self.assertIs(store.hear(CHAIN[0]), True)
        self.assertEqual(store.ready(), CHAIN)

    def test_what_is_no_deed_is_that_ahead_of_a_twin(self):
        store = store_of(CHAIN)
        with self.assertRaises(NoDeed):
            store.hear((0, (1, 0), ("put", None, (0,), 7)))

    def test_each_store_keeps_its_own(self):
        one, other = Store(2), Store(2)
        one.hear(CHAIN[0])
        self.assertEqual(other.ready(), [])
        self.assertIs(other.hear(CHAIN[0]), True)


class TestAsked(unittest.TestCase):

    def test_nothing_at_first(self):
        for hands in range(1, 9):
            store = Store(hands)
            self.assertEqual(all_of(store), ([], [], (0,) * hands, []))

    def test_deeds_that_wait_and_then_are_ready(self):
        store = store_of(CHAIN[:0:-1])
        self.assertEqual(store.ready(), [])
        self.assertEqual(store.waiting(), [(0, 2), (1, 1), (1, 2)])
        self.assertEqual(store.clock(), (0, 0))
        store.hear(CHAIN[0])
        self.assertEqual(store.ready(), CHAIN)
        self.assertEqual(store.waiting(), [])
        self.assertEqual(store.clock(), (2, 2))

    def test_some_ready_and_some_waiting(self):
        store = store_of([CHAIN[3], CHAIN[0], CHAIN[2]])
        self.assertEqual(store.ready(), [CHAIN[0]])
        self.assertEqual(store.waiting(), [(0, 2), (1, 2)])
        self.assertEqual(store.clock(), (1, 0))

    def test_waiting_names_are_sorted_by_hand_then_number(self):
        names = [(1, 3), (0, 12), (1, 10), (0, 2), (1, 2)]
        store = store_of([none_deed(hand, (number, 0) if hand == 0 else (0, number)) for hand, number in names])
        self.assertEqual(store.waiting(), [(0, 2), (0, 12), (1, 2), (1, 3), (1, 10)])

    def test_the_clock_counts_the_ready_ones_of_each_hand(self):
        deeds = some_deeds(21, 4, 50)
        store = store_of(deeds, 4)
        self.assertEqual(store.clock(), tuple(len([deed for deed in deeds if deed[0] == hand]) for hand in range(4)))
        self.assertIs(type(store.clock()), tuple)

    def test_a_deed_known_of_but_waiting_is_not_counted(self):
        store = store_of([none_deed(0, (1, 0)), none_deed(0, (3, 0)), none_deed(1, (2, 1))])
        self.assertEqual(store.clock(), (1, 0))

    def test_like_deeds_in_whatever_order_and_however_often(self):
        deeds = some_deeds(22, 3, 40)
        told = all_of(store_of(deeds, 3))
        self.assertEqual(told[0], in_order(deeds))
        chance = random.Random(22)
        for each in range(10):
            self.assertEqual(all_of(store_of(chance.sample(deeds * 2, 80), 3)), told)

    def test_three_hundred_deeds(self):
        deeds = some_deeds(23, 8, 300)
        store = store_of(random.Random(23).sample(deeds, 300), 8)
        self.assertEqual(store.ready(), in_order(deeds))
        self.assertEqual(store.told(start_clock(8)), in_order(deeds))


class TestTold(unittest.TestCase):

    def test_to_the_clock_of_noughts(self):
        self.assertEqual(store_of(CHAIN[::-1]).told((0, 0)), CHAIN)

    def test_to_its_own_clock(self):
        store = store_of(CHAIN)
        self.assertEqual(store.told(store.clock()), [])
        self.assertEqual(store.told((9, 9)), [])

    def test_to_clocks_between(self):
        store = store_of(CHAIN)
        self.assertEqual(store.told((1, 0)), CHAIN[1:])
        self.assertEqual(store.told((1, 1)), CHAIN[2:])
        self.assertEqual(store.told((0, 1)), [CHAIN[0], CHAIN[2], CHAIN[3]])
        self.assertEqual(store.told((2, 0)), [CHAIN[1], CHAIN[3]])
        self.assertEqual(store.told((0, 2)), [CHAIN[0], CHAIN[2]])

    def test_the_ready_ones_first_then_those_that_wait_by_names(self):
        zero = [none_deed(0, (number, 0)) for number in range(1, 12)]
        one = [none_deed(1, (0, 1)), none_deed(1, (0, 3)), none_deed(1, (0, 2))]
        store = store_of([zero[10], zero[2], one[1], one[0], zero[0]])
        self.assertEqual(store.told((0, 0)), [zero[0], one[0], zero[2], zero[10], one[1]])
        self.assertEqual(store.told(store.clock()), [zero[2], zero[10], one[1]])
        self.assertEqual(store.told((3, 0)), [one[0], zero[10], one[1]])
        self.assertEqual(store.told((2, 2)), [zero[2], zero[10], one[1]])

    def test_those_that_wait_are_not_in_the_order_of_sums(self):
        low, high = none_deed(1, (0, 2)), none_deed(0, (9, 9))
        self.assertEqual(store_of([low, high]).told((0, 0)), [high, low])

    def test_to_all_clocks(self):
        deeds = some_deeds(24, 2, 20)
        del deeds[12]
        store = store_of(deeds[::-1])
        ready = ready_of(deeds)
        waiting = [deed for deed in sorted(deeds, key=name_of) if deed not in ready]
        self.assertTrue(ready and waiting)
        for clock in [(zero, one) for zero in range(15) for one in range(15)]:
            told = [deed for deed in ready + waiting if not tells(clock, name_of(deed))]
            self.assertEqual(store.told(clock), told)


class TestListsTold(unittest.TestCase):

    def test_nothing_done_later_changes_them(self):
        store = store_of([CHAIN[0], CHAIN[2]])
        ready, waiting, clock, told = all_of(store)
        store.hear(CHAIN[1])
        store.hear(CHAIN[3])
        self.assertEqual(ready, [CHAIN[0]])
        self.assertEqual(waiting, [(0, 2)])
        self.assertEqual(clock, (1, 0))
        self.assertEqual(told, [CHAIN[0], CHAIN[2]])

    def test_what_the_asker_does_to_them_changes_nothing(self):
        store = store_of([CHAIN[0], CHAIN[2]])
        before = all_of(store)
        for told in [store.ready(), store.waiting(), store.told((0, 0))]:
            told.append(CHAIN[1])
            told.reverse()
            told.pop()
        self.assertEqual(all_of(store), before)

    def test_each_one_is_new(self):
        store = store_of(CHAIN[1:])
        self.assertIsNot(store.ready(), store.ready())
        self.assertIsNot(store.waiting(), store.waiting())
        self.assertIsNot(store.told((0, 0)), store.told((0, 0)))


class TestMeet(unittest.TestCase):

    def check(self, one, other, new):
        told = meet(one, other)
        self.assertEqual(told, new)
        self.assertEqual([type(told), type(told[0]), type(told[1])], [tuple, int, int])

    def test_one_has_nothing(self):
        one, other = store_of(CHAIN), Store(2)
        self.check(one, other, (0, 4))
        self.assertEqual(other.ready(), CHAIN)
        one, other = Store(2), store_of(CHAIN)
        self.check(one, other, (4, 0))
        self.assertEqual(one.ready(), CHAIN)

    def test_both_have_nothing(self):
        self.check(Store(3), Store(3), (0, 0))

    def test_both_have_the_same(self):
        one, other = store_of(CHAIN), store_of(CHAIN[::-1])
        self.check(one, other, (0, 0))
        self.assertEqual(all_of(one), all_of(other))

    def test_each_lacks_some(self):
        zero = [none_deed(0, (number, 0)) for number in range(1, 4)]
        one = [none_deed(1, (0, number)) for number in range(1, 3)]
        left, right = store_of(zero + one[:1]), store_of(zero[:1] + one)
        self.check(left, right, (1, 2))
        self.assertEqual(left.ready(), in_order(zero + one))
        self.assertEqual(all_of(left), all_of(right))
        self.check(left, right, (0, 0))

    def test_deeds_that_wait_are_told_too(self):
        one, other = store_of([CHAIN[2], CHAIN[3]]), store_of([CHAIN[1]])
        self.check(one, other, (1, 2))
        self.assertEqual(one.waiting(), [(0, 2), (1, 1), (1, 2)])
        self.assertEqual(all_of(one), all_of(other))

    def test_deeds_that_waited_are_ready_behind_it(self):
        one, other = store_of([CHAIN[0], CHAIN[2]]), store_of([CHAIN[1], CHAIN[3]])
        self.check(one, other, (2, 2))
        self.assertEqual(one.ready(), CHAIN)
        self.assertEqual(other.ready(), CHAIN)

    def test_what_waits_on_both_sides_is_not_new(self):
        one, other = store_of(CHAIN[1:]), store_of(CHAIN[2:])
        self.check(one, other, (0, 1))
        self.check(one, other, (0, 0))
        self.check(other, one, (0, 0))

    def test_twins_are_passed_over(self):
        mine, yours = none_deed(0, (2, 0)), (0, (2, 0), ("off", 1))
        more = none_deed(0, (3, 0))
        one, other = store_of([mine]), store_of([yours, more])
        self.check(one, other, (1, 0))
        self.assertEqual(one.told((0, 0)), [mine, more])
        self.assertEqual(other.told((0, 0)), [yours, more])
        self.check(one, other, (0, 0))

    def test_ready_twins_are_passed_over(self):
        mine, yours = (0, (1, 0), ("put", None, (0,), "a")), (0, (1, 0), ("put", None, (0,), "b"))
        later = none_deed(1, (1, 1))
        one, other = store_of([mine]), store_of([yours, later])
        self.check(one, other, (1, 0))
        self.assertEqual(one.ready(), [mine, later])
        self.assertEqual(other.ready(), [yours, later])

    def test_a_waiting_twin_of_a_ready_one_is_passed_over(self):
        ready, waiting, last = none_deed(1, (0, 1)), (1, (5, 1), ("none",)), none_deed(0, (1, 0))
        one, other = store_of([ready]), store_of([waiting, last])
        self.check(one, other, (1, 0))
        self.assertEqual(one.ready(), [last, ready])
        self.assertEqual((other.ready(), other.waiting()), ([last], [(1, 1)]))
        self.assertEqual(other.told((1, 0)), [waiting])

    def test_a_store_that_meets_itself(self):
        for deeds in [[], CHAIN, CHAIN[1:], [CHAIN[0], CHAIN[2]]]:
            store = store_of(deeds)
            before = all_of(store)
            self.check(store, store, (0, 0))
            self.assertEqual(all_of(store), before)

    def test_what_is_told_is_what_was_there_ahead_of_the_meeting(self):
        # The clock that each asks with is that of ahead of the meeting as well: with a later one the other store's
        # twin of a name would not be told, and what waits would be counted otherwise.
        one = store_of([none_deed(0, (1, 0)), none_deed(0, (3, 0))])
        other = store_of([none_deed(0, (2, 0)), none_deed(1, (0, 1))])
        self.check(one, other, (2, 2))
        self.assertEqual(one.clock(), (3, 1))
        self.assertEqual(all_of(one), all_of(other))

    def test_a_second_meeting_brings_nothing(self):
        chance = random.Random(31)
        for seed in range(20):
            deeds = some_deeds(seed, 3, 40)
            mine, yours = chance.sample(deeds, 25), chance.sample(deeds, 25)
            one, other = store_of(mine, 3), store_of(yours, 3)
            either = [deed for deed in deeds if deed in mine or deed in yours]
            self.check(one, other, (len(either) - 25, len(either) - 25))
            self.assertEqual(all_of(one), all_of(other))
            self.assertEqual(one.ready(), ready_of(either))
            self.check(one, other, (0, 0))
            self.check(other, one, (0, 0))

    def test_many_stores_come_to_the_same(self):
        deeds = some_deeds(32, 4, 60)
        stores = [store_of(deeds[each::4], 4) for each in range(4)]
        chance = random.Random(32)
        for each in range(40):
            meet(*chance.sample(stores, 2))
        for store in stores:
            self.assertEqual(store.ready(), in_order(deeds))
            self.assertEqual(store.waiting(), [])


if __name__ == "__main__":
    unittest.main()
