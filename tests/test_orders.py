import itertools
import random
import unittest

from limb.clocks import tells, within
from limb.deeds import name_of
from limb.orders import apart, hears, ready_of
from samples import EIGHT_HANDS, ONE_HAND, SIXTY, in_order, none_deed, some_deeds


def ready_by_rounds(deeds):
    """[13], told round by round: what is ready grows until nothing more joins it."""
    ready, grows = {}, True
    while grows:
        grows = False
        for deed in deeds:
            if name_of(deed) not in ready and all(
                (hand, last) in ready and within(ready[hand, last][1], deed[1])
                for hand, last in enumerate(deed[1][:deed[0]] + (deed[1][deed[0]] - 1,) + deed[1][deed[0] + 1:])
                if last > 0
            ):
                ready[name_of(deed)] = deed
                grows = True
    return in_order(ready.values())


class TestHears(unittest.TestCase):

    def test_its_own_name(self):
        for deed in ONE_HAND + EIGHT_HANDS:
            self.assertIs(hears(deed, name_of(deed)), False)

    def test_deeds_of_its_own_hand(self):
        for deed in ONE_HAND + EIGHT_HANDS:
            for number, answer in [(1, True), (4, True), (5, False), (6, False), (SIXTY, False)]:
                with self.subTest(deed=deed, number=number):
                    self.assertIs(hears(deed, (deed[0], number)), answer)

    def test_deeds_of_other_hands(self):
        for deed in EIGHT_HANDS:
            for hand, number in enumerate(deed[1]):
                if hand != 3:
                    with self.subTest(hand=hand):
                        self.assertIs(hears(deed, (hand, number + 1)), False)
                        self.assertIs(hears(deed, (hand, SIXTY)), False)
                        if number > 0:
                            self.assertIs(hears(deed, (hand, number)), True)
                            self.assertIs(hears(deed, (hand, 1)), True)


class TestApart(unittest.TestCase):

    def check(self, one, other, answer):
        with self.subTest(one=one, other=other):
            self.assertIs(apart(one, other), answer)
            self.assertIs(apart(other, one), answer)

    def test_a_deed_and_itself(self):
        for deed in ONE_HAND + EIGHT_HANDS:
            self.check(deed, deed, False)
            self.check(deed, tuple(list(deed)), False)

    def test_deeds_of_one_hand(self):
        self.check(none_deed(0, (1,)), none_deed(0, (2,)), False)
        self.check(none_deed(0, (1,)), none_deed(0, (9,)), False)
        self.check(none_deed(1, (0, 1)), none_deed(1, (5, 2)), False)

    def test_one_has_heard_of_the_other(self):
        self.check(none_deed(0, (1, 0)), none_deed(1, (1, 1)), False)
        self.check(none_deed(0, (3, 1)), none_deed(1, (4, 2)), False)
        self.check(none_deed(0, (3, 4)), none_deed(1, (2, 4)), False)

    def test_neither_has_heard_of_the_other(self):
        self.check(none_deed(0, (1, 0)), none_deed(1, (0, 1)), True)
        self.check(none_deed(0, (3, 1)), none_deed(1, (2, 2)), True)
        self.check(none_deed(0, (3, 1)), none_deed(1, (2, 9)), True)
        self.check(none_deed(0, (1, 0, 5)), none_deed(1, (0, 1, 5)), True)

    def test_both_have_heard_of_the_other(self):
        self.check(none_deed(0, (1, 1)), none_deed(1, (1, 1)), False)

    def test_all_pairs(self):
        deeds = some_deeds(3, 3, 40)
        told = set()
        for one, other in itertools.product(deeds, deeds):
            answer = one != other and not tells(one[1], name_of(other)) and not tells(other[1], name_of(one))
            self.check(one, other, answer)
            told.add(answer)
        self.assertEqual(told, {True, False})


class TestReadyOf(unittest.TestCase):

    def check(self, deeds, ready):
        """In whatever order they are handed in, these are ready, in this order."""
        chance = random.Random(5)
        for each in range(12):
            handed = list(deeds)
            told = ready_of(handed)
            self.assertEqual(told, ready)
            self.assertIs(type(told), list)
            self.assertEqual(handed, deeds)
            self.assertIsNot(told, handed)
            deeds = chance.sample(deeds, len(deeds))

    def test_none(self):
        self.check([], [])

    def test_one_hands_deeds(self):
        deeds = [none_deed(0, (number,)) for number in range(1, 8)]
        self.check(deeds, deeds)
        self.check(deeds[:1], deeds[:1])

    def test_a_gap(self):
        deeds = [none_deed(0, (number,)) for number in range(1, 8)]
        self.check(deeds[:3] + deeds[4:], deeds[:3])
        self.check(deeds[1:], [])
        self.check(deeds[6:], [])

    def test_the_first_deed_asks_nothing_of_its_hand(self):
        for hand in range(3):
            deed = none_deed(hand, tuple(int(hand == each) for each in range(3)))
            self.check([deed], [deed])

    def test_what_another_hand_did_is_not_there(self):
        self.check([none_deed(1, (1, 1))], [])
        self.check([none_deed(0, (1, 2)), none_deed(1, (0, 1))], [none_deed(1, (0, 1))])
        self.check([none_deed(0, (1, 1)), none_deed(1, (0, 2))], [])

    def test_deeds_that_wait_on_one_that_waits(self):
        first, second, third = none_deed(0, (1, 0, 0)), none_deed(1, (1, 1, 0)), none_deed(2, (1, 1, 1))
        self.check([second, third], [])
        self.check([first, third], [first])
        self.check([first, second, third], [first, second, third])

    def test_only_the_last_of_each_hand_is_asked_for_and_asks_itself(self):
        deeds = [none_deed(0, (1, 0)), none_deed(0, (2, 0)), none_deed(1, (2, 1))]
        self.check(deeds, deeds)
        self.check(deeds[1:], [])

    def test_a_ring(self):
        one, other = none_deed(0, (1, 1)), none_deed(1, (1, 1))
        self.check([one, other], [])
        self.check([one, other, none_deed(0, (2, 1)), none_deed(2, (0, 0, 1))], [none_deed(2, (0, 0, 1))])

    def test_a_ring_of_three(self):
        ring = [none_deed(0, (1, 1, 1)), none_deed(1, (1, 1, 1)), none_deed(2, (1, 1, 1))]
        self.check(ring, [])
        self.check([none_deed(0, (1, 1, 0)), none_deed(1, (0, 1, 1)), none_deed(2, (1, 0, 1))], [])

    def test_a_ring_behind_ready_ones(self):
        ready = [none_deed(0, (1, 0)), none_deed(1, (0, 1))]
        self.check(ready + [none_deed(0, (2, 2)), none_deed(1, (2, 2))], ready)

    def test_a_clock_that_knows_less_than_one_ahead_of_it(self):
        first, second = none_deed(1, (0, 1)), none_deed(0, (1, 1))
        third = none_deed(0, (2, 0))
        self.check([first, second, third], [first, second])
        # It tells of a deed of another hand, but not of what that one had heard.
        third = none_deed(2, (1, 0, 1))
        deeds = [none_deed(1, (0, 1, 0)), none_deed(0, (1, 1, 0))]
        self.check(deeds + [third], deeds)
        third = none_deed(2, (1, 1, 1))
        self.check(deeds + [third], deeds + [third])

    def test_like_sums_by_hands(self):
        deeds = [none_deed(hand, tuple(int(hand == each) for each in range(8))) for hand in range(8)]
        self.check(deeds[::-1], deeds)

    def test_sums_ahead_of_hands(self):
        zero = [none_deed(0, (1, 0)), none_deed(0, (2, 0)), none_deed(0, (3, 0))]
        one = [none_deed(1, (0, 1)), none_deed(1, (0, 2)), none_deed(1, (3, 3))]
        self.check(zero + one, [zero[0], one[0], zero[1], one[1], zero[2], one[2]])

    def test_great_numbers_wait(self):
        self.check([none_deed(0, (SIXTY, SIXTY)), none_deed(1, (0, 1))], [none_deed(1, (0, 1))])

    def test_all_that_was_done_is_ready(self):
        for seed in range(6):
            deeds = some_deeds(seed, 1 + seed, 60)
            self.check(deeds, in_order(deeds))

    def test_what_is_ready_when_some_are_missing(self):
        chance = random.Random(8)
        for seed in range(30):
            deeds = some_deeds(seed, 3, 40)
            deeds = chance.sample(deeds, 36)
            self.check(deeds, ready_by_rounds(deeds))

    def test_what_is_ready_of_clocks_by_chance(self):
        chance = random.Random(9)
        ready = 0
        for each in range(300):
            deeds = {}
            for each_deed in range(12):
                hand, clock = chance.randrange(3), tuple(chance.choice([0, 0, 0, 1, 1, 2]) for hand in range(3))
                if clock[hand] > 0:
                    deeds.setdefault((hand, clock[hand]), none_deed(hand, clock))
            told = ready_of(list(deeds.values()))
            self.assertEqual(told, ready_by_rounds(list(deeds.values())))
            ready += len(told)
        self.assertGreater(ready, 200)

    def test_each_stands_behind_all_of_which_it_has_heard(self):
        told = ready_of(some_deeds(11, 4, 80))
        for at, deed in enumerate(told):
            for later in told[at + 1:]:
                self.assertIs(hears(deed, name_of(later)), False)

    def test_three_hundred_deeds(self):
        deeds = some_deeds(12, 8, 300)
        self.check(deeds, in_order(deeds))
        deeds = [none_deed(0, (number,)) for number in range(1, 301)]
        self.check(deeds[::-1], deeds)

    def test_the_list_told_is_the_askers_own(self):
        deeds = some_deeds(13, 2, 10)
        one, other = ready_of(deeds), ready_of(deeds)
        self.assertIsNot(one, other)
        one.clear()
        self.assertEqual(ready_of(deeds), other)
        self.assertEqual(len(other), 10)
        deeds.clear()
        self.assertEqual(len(other), 10)


if __name__ == "__main__":
    unittest.main()
