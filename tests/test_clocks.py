import itertools
import unittest

from limb.clocks import is_clock, is_name, is_whole, met_clock, raised, start_clock, tells, within

SIXTY = 10 ** 60 - 1
NO_NUMBERS = [
    True, False, None, "", "1", "0", [], [1], (), (1,), {}, {1: 1}, 1.0, 0.0, float("nan"), 1j, b"1",
    {1}, frozenset(), object(), int, len, range(2), ValueError("1"),
]


class TestIsWhole(unittest.TestCase):

    def test_at_below_and_above_the_bound(self):
        for low in [0, 1, -1, -7, 8, SIXTY, -SIXTY]:
            with self.subTest(low=low):
                self.assertIs(is_whole(low - 1, low), False)
                self.assertIs(is_whole(low, low), True)
                self.assertIs(is_whole(low + 1, low), True)

    def test_sixty_figures(self):
        self.assertIs(is_whole(SIXTY, 0), True)
        self.assertIs(is_whole(-SIXTY, 0), False)
        self.assertIs(is_whole(-SIXTY, -SIXTY), True)
        self.assertIs(is_whole(0, SIXTY), False)

    def test_truths_are_no_whole_numbers(self):
        for low in [-1, 0, 1, 2]:
            self.assertIs(is_whole(True, low), False)
            self.assertIs(is_whole(False, low), False)

    def test_other_things(self):
        for thing in NO_NUMBERS:
            with self.subTest(thing=thing):
                self.assertIs(is_whole(thing, 0), False)
                self.assertIs(is_whole(thing, -5), False)


class TestIsName(unittest.TestCase):

    def test_hands_at_the_edges(self):
        for hands in [1, 2, 8]:
            with self.subTest(hands=hands):
                self.assertIs(is_name((-1, 1), hands), False)
                self.assertIs(is_name((0, 1), hands), True)
                self.assertIs(is_name((hands - 1, 1), hands), True)
                self.assertIs(is_name((hands, 1), hands), False)
                self.assertIs(is_name((SIXTY, 1), hands), False)

    def test_numbers_at_the_edge(self):
        for hands in [1, 8]:
            with self.subTest(hands=hands):
                self.assertIs(is_name((0, -1), hands), False)
                self.assertIs(is_name((0, 0), hands), False)
                self.assertIs(is_name((0, 1), hands), True)
                self.assertIs(is_name((hands - 1, 2), hands), True)
                self.assertIs(is_name((0, SIXTY), hands), True)
                self.assertIs(is_name((0, -SIXTY), hands), False)

    def test_too_short_and_too_long(self):
        for thing in [(), (0,), (1,), (0, 1, 1), (0, 1, None), (1, 1, 1, 1)]:
            with self.subTest(thing=thing):
                self.assertIs(is_name(thing, 2), False)

    def test_a_list_is_no_name(self):
        thing = [0, 1]
        self.assertIs(is_name(thing, 2), False)
        self.assertEqual(thing, [0, 1])

    def test_other_things_within(self):
        for thing in NO_NUMBERS:
            with self.subTest(thing=thing):
                self.assertIs(is_name((thing, 1), 2), False)
                self.assertIs(is_name((1, thing), 2), False)

    def test_other_things(self):
        for thing in NO_NUMBERS + [1, 0, "ab", {0: 0, 1: 1}, "0.1", [0, 1]]:
            with self.subTest(thing=thing):
                self.assertIs(is_name(thing, 2), False)


class TestIsClock(unittest.TestCase):

    def test_as_many_numbers_as_hands(self):
        for hands in range(1, 9):
            for count in range(0, 11):
                with self.subTest(hands=hands, count=count):
                    self.assertIs(is_clock((0,) * count, hands), count == hands)
                    self.assertIs(is_clock((3,) * count, hands), count == hands)

    def test_numbers_from_nought_on(self):
        for hands in [1, 3, 8]:
            for at in range(hands):
                for number, answer in [(-1, False), (0, True), (1, True), (SIXTY, True), (-SIXTY, False)]:
                    with self.subTest(hands=hands, at=at, number=number):
                        clock = (1,) * at + (number,) + (1,) * (hands - at - 1)
                        self.assertIs(is_clock(clock, hands), answer)

    def test_other_things_within(self):
        for thing in NO_NUMBERS:
            with self.subTest(thing=thing):
                self.assertIs(is_clock((thing,), 1), False)
                self.assertIs(is_clock((thing, 0, 0), 3), False)
                self.assertIs(is_clock((0, thing, 0), 3), False)
                self.assertIs(is_clock((0, 0, thing), 3), False)

    def test_a_list_is_no_clock(self):
        thing = [0, 0]
        self.assertIs(is_clock(thing, 2), False)
        self.assertEqual(thing, [0, 0])
        self.assertIs(is_clock([0], 1), False)

    def test_other_things(self):
        for thing in NO_NUMBERS + [1, 0, "00", {0: 0, 1: 0}, {0, 1}, range(2)]:
            with self.subTest(thing=thing):
                self.assertIs(is_clock(thing, 2), False)


class TestStartClock(unittest.TestCase):

    def test_noughts_for_each_hand(self):
        self.assertEqual(start_clock(1), (0,))
        self.assertEqual(start_clock(2), (0, 0))
        self.assertEqual(start_clock(8), (0, 0, 0, 0, 0, 0, 0, 0))

    def test_it_is_a_clock(self):
        for hands in range(1, 9):
            self.assertIs(is_clock(start_clock(hands), hands), True)


class TestWithin(unittest.TestCase):

    def test_alike_clocks(self):
        for clock in [(0,), (5,), (0,) * 8, (3, 1, 4, 1, 5, 9, 2, 6), (SIXTY,) * 8]:
            self.assertIs(within(clock, clock), True)

    def test_one_hand(self):
        self.assertIs(within((1,), (2,)), True)
        self.assertIs(within((2,), (1,)), False)
        self.assertIs(within((SIXTY - 1,), (SIXTY,)), True)
        self.assertIs(within((SIXTY,), (SIXTY - 1,)), False)

    def test_one_place_differs_by_one(self):
        clock = (3, 1, 4, 1, 5, 9, 2, SIXTY)
        for at in range(8):
            greater = clock[:at] + (clock[at] + 1,) + clock[at + 1:]
            with self.subTest(at=at):
                self.assertIs(within(clock, greater), True)
                self.assertIs(within(greater, clock), False)

    def test_neither_is_within_the_other(self):
        for one, other in [((1, 0), (0, 1)), ((0, 2, 5), (9, 9, 4)), ((0,) * 7 + (1,), (1,) + (0,) * 7)]:
            with self.subTest(one=one, other=other):
                self.assertIs(within(one, other), False)
                self.assertIs(within(other, one), False)


class TestMetClock(unittest.TestCase):

    def test_the_greater_number_at_each_place(self):
        for one, other, met in [
            ((0,), (0,), (0,)),
            ((2,), (7,), (7,)),
            ((1, 0), (0, 1), (1, 1)),
            ((5, 2, 3), (4, 2, 9), (5, 2, 9)),
            ((1, 2, 3, 4, 5, 6, 7, 8), (8, 7, 6, 5, 4, 3, 2, 1), (8, 7, 6, 5, 5, 6, 7, 8)),
            ((SIXTY, 0), (SIXTY - 1, 1), (SIXTY, 1)),
        ]:
            with self.subTest(one=one, other=other):
                self.assertEqual(met_clock(one, other), met)
                self.assertEqual(met_clock(other, one), met)
                self.assertIsInstance(met_clock(one, other), tuple)

    def test_both_are_within_it(self):
        clocks = list(itertools.product(range(3), repeat=3))
        for one, other in itertools.product(clocks, clocks):
            met = met_clock(one, other)
            self.assertTrue(within(one, met) and within(other, met))
            self.assertEqual(met == other, within(one, other))

    def test_what_was_handed_in_stays(self):
        one, other = (1, 0, 2), (0, 3, 2)
        met_clock(one, other)
        within(one, other)
        self.assertEqual((one, other), ((1, 0, 2), (0, 3, 2)))


class TestRaised(unittest.TestCase):

    def test_one_hand(self):
        self.assertEqual(raised((0,), 0), (1,))
        self.assertEqual(raised((SIXTY - 1,), 0), (SIXTY,))

    def test_only_that_hand_is_raised(self):
        clock = (3, 1, 4, 1, 5, 9, 2, SIXTY)
        for hand in range(8):
            greater = list(clock)
            greater[hand] += 1
            with self.subTest(hand=hand):
                self.assertEqual(raised(clock, hand), tuple(greater))
                self.assertIs(is_clock(raised(clock, hand), 8), True)
        self.assertEqual(clock, (3, 1, 4, 1, 5, 9, 2, SIXTY))


class TestTells(unittest.TestCase):

    def test_one_below_at_and_above(self):
        for clock in [(2,), (3, 2, 4, 2, 5, 9, 2, SIXTY)]:
            for hand, number in enumerate(clock):
                with self.subTest(clock=clock, hand=hand):
                    self.assertIs(tells(clock, (hand, number - 1)), True)
                    self.assertIs(tells(clock, (hand, number)), True)
                    self.assertIs(tells(clock, (hand, number + 1)), False)

    def test_nought_tells_of_nothing(self):
        self.assertIs(tells((0,), (0, 1)), False)
        self.assertIs(tells((0, 9), (0, 1)), False)
        self.assertIs(tells((9, 0), (0, 1)), True)

    def test_great_numbers(self):
        self.assertIs(tells((1, 0), (0, SIXTY)), False)
        self.assertIs(tells((SIXTY, 0), (0, 1)), True)

    def test_what_was_handed_in_stays(self):
        clock, name = (1, 2), (1, 2)
        tells(clock, name)
        self.assertEqual((clock, name), ((1, 2), (1, 2)))


if __name__ == "__main__":
    unittest.main()
