import itertools
import unittest

from limb.errors import LimbError, NoPlace
from limb.places import between, is_place

SIXTY = 10 ** 60 - 1
NO_NUMBERS = [
    True, False, None, "", "1", [], [1], (), (1,), {}, {1: 1}, 1.0, float("nan"), 1j, b"1", {1},
    object(), int, len,
]


def comes_first(one, other):
    """[6], told number by number and not by Python's own order of tuples."""
    for at in range(min(len(one), len(other))):
        if one[at] != other[at]:
            return one[at] < other[at]
    return len(one) < len(other)


class TestIsPlace(unittest.TestCase):

    def test_how_many_numbers(self):
        for count, answer in [(0, False), (1, True), (2, True), (63, True), (64, True), (65, False), (200, False)]:
            with self.subTest(count=count):
                self.assertIs(is_place((7,) * count), answer)

    def test_any_whole_numbers(self):
        for number in [0, 1, -1, -64, 65, SIXTY, -SIXTY]:
            with self.subTest(number=number):
                self.assertIs(is_place((number,)), True)
                self.assertIs(is_place((0, number)), True)
                self.assertIs(is_place((number,) * 64), True)

    def test_other_things_within(self):
        for thing in NO_NUMBERS:
            with self.subTest(thing=thing):
                self.assertIs(is_place((thing,)), False)
                self.assertIs(is_place((thing, 0, 0)), False)
                self.assertIs(is_place((0, thing, 0)), False)
                self.assertIs(is_place((0, 0, thing)), False)
                self.assertIs(is_place((0,) * 63 + (thing,)), False)

    def test_a_list_is_no_place(self):
        thing = [1, 2]
        self.assertIs(is_place(thing), False)
        self.assertEqual(thing, [1, 2])
        self.assertIs(is_place([0]), False)

    def test_other_things(self):
        for thing in [thing for thing in NO_NUMBERS if thing != (1,)] + [0, 1, -1, SIXTY, "1/2", range(3), {0: 0}]:
            with self.subTest(thing=thing):
                self.assertIs(is_place(thing), False)


class TestBetween(unittest.TestCase):

    def check(self, low, high, place):
        with self.subTest(low=low, high=high):
            told = between(low, high)
            self.assertEqual(told, place)
            self.assertIs(is_place(told), True)
            if low is not None:
                self.assertTrue(comes_first(low, told))
            if high is not None:
                self.assertTrue(comes_first(told, high))

    def test_both_ends_open(self):
        self.check(None, None, (0,))

    def test_low_end_open(self):
        self.check(None, (0,), (-1,))
        self.check(None, (1,), (0,))
        self.check(None, (7, 3), (6,))
        self.check(None, (-5, -9, 2), (-6,))
        self.check(None, (-SIXTY + 1,), (-SIXTY,))
        self.check(None, (5,) * 64, (4,))

    def test_high_end_open(self):
        self.check((0,), None, (1,))
        self.check((-1,), None, (0,))
        self.check((7, 3), None, (8,))
        self.check((-5, -9, 2), None, (-4,))
        self.check((SIXTY - 1,), None, (SIXTY,))
        self.check((5,) * 64, None, (6,))

    def test_low_is_a_beginning_of_high(self):
        self.check((1,), (1, 0), (1, -1))
        self.check((1,), (1, 9), (1, 8))
        self.check((1,), (1, -3, 7), (1, -4))
        self.check((0, 2), (0, 2, 5, 6, 7), (0, 2, 4))
        self.check((3,) * 63, (3,) * 64, (3,) * 63 + (2,))

    def test_numbers_that_differ_by_two(self):
        self.check((1,), (3,), (2,))
        self.check((0, 1), (0, 3), (0, 2))
        self.check((1, 8), (3, 8), (2,))
        self.check((4, 1, 9, 9), (4, 3), (4, 2))
        self.check((-3,), (-1,), (-2,))
        self.check((-1,), (1,), (0,))

    def test_numbers_that_differ_by_more(self):
        self.check((0,), (3,), (1,))
        self.check((1,), (9,), (5,))
        self.check((0,), (10,), (5,))
        self.check((1,), (4, 0), (2,))
        self.check((2, 0, 5), (2, 100, 1), (2, 50))
        self.check((0,), (SIXTY,), (SIXTY // 2,))
        self.check((-SIXTY,), (SIXTY,), (0,))

    def test_numbers_below_nought_are_halved_downwards(self):
        self.check((-3,), (0,), (-2,))
        self.check((-4,), (-1,), (-3,))
        self.check((-5,), (2,), (-2,))
        self.check((-9,), (-2, 5), (-6,))
        self.check((1, -4), (1, 1), (1, -2))

    def test_numbers_that_differ_by_one_and_low_goes_on(self):
        self.check((1, 5), (2,), (1, 6))
        self.check((1, 5, 7, 8), (2,), (1, 6))
        self.check((1, -1), (2, 0), (1, 0))
        self.check((0, 1, -9), (0, 2), (0, 1, -8))
        self.check((-2, 3), (-1,), (-2, 4))
        self.check((-1, SIXTY - 1), (0, -5), (-1, SIXTY))

    def test_numbers_that_differ_by_one_and_low_ends(self):
        self.check((1,), (2,), (1, 0))
        self.check((1,), (2, -7, 3), (1, 0))
        self.check((-1,), (0,), (-1, 0))
        self.check((4, 1), (4, 2), (4, 1, 0))
        self.check((SIXTY - 1,), (SIXTY,), (SIXTY - 1, 0))

    def test_sixty_four_numbers_are_told(self):
        self.check((3,) * 62 + (1,), (3,) * 62 + (2,), (3,) * 62 + (1, 0))
        self.check((3,) * 62 + (1, 5), (3,) * 62 + (2,), (3,) * 62 + (1, 6))
        self.check((3,) * 63 + (1,), (3,) * 63 + (3,), (3,) * 63 + (2,))

    def refuse(self, low, high):
        with self.subTest(low=low, high=high):
            with self.assertRaises(NoPlace) as caught:
                between(low, high)
            self.assertIsInstance(caught.exception, LimbError)

    def test_sixty_five_numbers_are_refused(self):
        self.refuse((3,) * 63 + (1,), (3,) * 63 + (2,))
        self.refuse((0,) * 64, (0,) * 63 + (1,))
        self.refuse((-1,) * 64, (-1,) * 63 + (0,))

    def test_alike_places_are_refused(self):
        for place in [(0,), (-1,), (1, 2), (SIXTY,), (4,) * 64]:
            self.refuse(place, place)
            self.refuse(place, tuple(list(place)))

    def test_low_behind_high_is_refused(self):
        self.refuse((1,), (0,))
        self.refuse((2,), (1, 9))
        self.refuse((9,), (0,))
        self.refuse((1, 5), (1, 3))
        self.refuse((0,), (-1, 7))
        self.refuse((4, 0, 1), (3, 9, 9))

    def test_high_a_beginning_of_low_is_refused(self):
        self.refuse((1, 0), (1,))
        self.refuse((1, -5), (1,))
        self.refuse((0, 2, 5, 6), (0, 2))
        self.refuse((3,) * 64, (3,) * 63)

    def test_all_short_places(self):
        numbers = [-2, -1, 0, 1, 3]
        places = [place for count in [1, 2, 3] for place in itertools.product(numbers, repeat=count)]
        for low, high in itertools.product(places, places):
            if not comes_first(low, high):
                with self.assertRaises(NoPlace):
                    between(low, high)
                continue
            place = between(low, high)
            self.assertIs(is_place(place), True)
            self.assertTrue(comes_first(low, place) and comes_first(place, high), (low, high, place))

    def test_many_places_behind_one_another(self):
        low, high = (0,), (1,)
        for count in range(200):
            place = between(low, high)
            self.assertTrue(comes_first(low, place) and comes_first(place, high))
            low = place
        self.assertEqual(low, (0, 199))

    def test_many_places_ahead_of_one_another(self):
        low, high = (0,), (1,)
        for count in range(200):
            place = between(low, high)
            self.assertTrue(comes_first(low, place) and comes_first(place, high))
            high = place
        self.assertEqual(high, (0, -199))

    def test_what_was_handed_in_stays(self):
        low, high = (1, 5), (2, 6)
        between(low, high)
        self.assertEqual((low, high), ((1, 5), (2, 6)))


if __name__ == "__main__":
    unittest.main()
