import unittest

from limb.deeds import is_deed, name_of
from samples import EIGHT_CLOCK, EIGHT_HANDS, ODD_THINGS, ONE_HAND, SIXTY, replaced

WORDS = "put move write mark due fold part join take back off on none".split()

# Where in a `what` a part of each kind stands.
PARTS = {
    "put": ["word", "up", "place", "text"],
    "move": ["word", "item", "up", "place"],
    "write": ["word", "item", "text"],
    "mark": ["word", "item", "truth"],
    "due": ["word", "item", "whom"],
    "fold": ["word", "item", "truth"],
    "part": ["word", "item", "at", "place"],
    "join": ["word", "item", "item"],
    "take": ["word", "item"],
    "back": ["word", "item"],
    "off": ["word", "number"],
    "on": ["word", "number"],
    "none": ["word"],
}

# Odd things that are right for a part of a kind all the same.
RIGHT = {
    "up": [None, (0, 1)],
    "item": [(0, 1)],
    "place": [(1,), (0, 1)],
    "text": ["", "0", "none", "put"],
    "truth": [True, False],
    "whom": [None, 0, 1],
    "at": [0, 1],
    "number": [1],
}


def is_right(kind, thing):
    return any(type(thing) is type(right) and thing == right for right in RIGHT[kind])


class TestIsDeed(unittest.TestCase):

    def check(self, thing, hands, answer):
        with self.subTest(thing=thing, hands=hands):
            self.assertIs(is_deed(thing, hands), answer)

    def check_what(self, what, answer, hand=3, clock=EIGHT_CLOCK):
        self.check((hand, clock, what), len(clock), answer)

    def parts_of_kind(self, kind):
        """Each deed of eight hands that has a part of this kind, and where it stands."""
        for deed in EIGHT_HANDS:
            for at, other in enumerate(PARTS[deed[2][0]]):
                if other == kind:
                    yield deed, at

    def check_parts(self, kind, part, answer):
        for deed, at in self.parts_of_kind(kind):
            self.check_what(replaced(deed[2], at, part), answer)

    def test_each_word(self):
        self.assertEqual(sorted({deed[2][0] for deed in ONE_HAND}), sorted(WORDS))
        self.assertEqual(sorted({deed[2][0] for deed in EIGHT_HANDS}), sorted(WORDS))
        for deed in ONE_HAND:
            self.check(deed, 1, True)
        for deed in EIGHT_HANDS:
            self.check(deed, 8, True)

    def test_another_number_of_hands(self):
        for deed in ONE_HAND:
            self.check(deed, 2, False)
            self.check(deed, 8, False)
        for deed in EIGHT_HANDS:
            for hands in [1, 3, 4, 7, 9]:
                self.check(deed, hands, False)

    def test_any_thing(self):
        for thing in ODD_THINGS:
            self.check(thing, 1, False)
            self.check(thing, 8, False)

    def test_a_tuple_of_three(self):
        for deed in ONE_HAND:
            self.check(deed[:2], 1, False)
            self.check(deed[1:], 1, False)
            self.check(deed + (None,), 1, False)
            self.check(deed + (deed[2],), 1, False)
            self.check((deed,), 1, False)
            self.check(list(deed), 1, False)

    def test_odd_hands(self):
        for deed in EIGHT_HANDS:
            for thing in ODD_THINGS:
                if type(thing) is not int:
                    self.check(replaced(deed, 0, thing), 8, False)

    def test_truths_are_no_hands(self):
        self.check((0, (1, 1), ("none",)), 2, True)
        self.check((1, (1, 1), ("none",)), 2, True)
        self.check((False, (1, 1), ("none",)), 2, False)
        self.check((True, (1, 1), ("none",)), 2, False)

    def test_hands_at_the_edges(self):
        for hands in range(1, 9):
            clock = (1,) * hands
            self.check((-1, clock, ("none",)), hands, False)
            self.check((0, clock, ("none",)), hands, True)
            self.check((hands - 1, clock, ("none",)), hands, True)
            self.check((hands, clock, ("none",)), hands, False)
            self.check((hands + 1, clock, ("none",)), hands, False)
            self.check((-hands, clock, ("none",)), hands, False)

    def test_odd_clocks(self):
        for deed in EIGHT_HANDS:
            for thing in ODD_THINGS + [list(EIGHT_CLOCK)]:
                self.check(replaced(deed, 1, thing), 8, False)
        self.check((0, [1], ("none",)), 1, False)

    def test_clocks_too_short_and_too_long(self):
        for deed in EIGHT_HANDS:
            self.check(replaced(deed, 1, EIGHT_CLOCK[:7]), 8, False)
            self.check(replaced(deed, 1, EIGHT_CLOCK + (0,)), 8, False)
        self.check((0, (), ("none",)), 1, False)
        self.check((0, (1, 0), ("none",)), 1, False)

    def test_odd_numbers_in_a_clock(self):
        for at in range(8):
            for thing in ODD_THINGS:
                if type(thing) is not int:
                    self.check((3, replaced(EIGHT_CLOCK, at, thing), ("none",)), 8, False)
            self.check((3, replaced(EIGHT_CLOCK, at, -1), ("none",)), 8, False)
            self.check((3, replaced(EIGHT_CLOCK, at, SIXTY), ("none",)), 8, True)

    def test_the_number_of_the_deeds_own_hand(self):
        for hands in [1, 2, 8]:
            for hand in range(hands):
                for number, answer in [(-1, False), (0, False), (1, True), (2, True), (SIXTY, True)]:
                    self.check((hand, replaced((4,) * hands, hand, number), ("none",)), hands, answer)

    def test_odd_whats(self):
        for thing in ODD_THINGS:
            self.check((0, (5,), thing), 1, False)
        for deed in ONE_HAND:
            self.check(replaced(deed, 2, list(deed[2])), 1, False)

    def test_other_words(self):
        for deed in EIGHT_HANDS:
            for word in [thing for thing in ODD_THINGS if thing not in ("put", "none")] + [
                "PUT", "Put", "put ", " put", "gone", "cut", "top", "nothing", "of", b"put", ["put"], ("put",),
            ]:
                self.check_what(replaced(deed[2], 0, word), False)

    def test_too_short_and_too_long(self):
        for deed in EIGHT_HANDS:
            for count in range(len(deed[2])):
                self.check_what(deed[2][:count], False)
            for more in [None, (0, 1), (0,), "", "ink", True, 0, 1]:
                self.check_what(deed[2] + (more,), False)

    def test_a_word_with_the_parts_of_another(self):
        for deed in EIGHT_HANDS:
            for word in WORDS:
                if len(PARTS[word]) != len(deed[2]):
                    self.check_what(replaced(deed[2], 0, word), False)

    def test_odd_parts(self):
        for kind in RIGHT:
            for thing in ODD_THINGS:
                self.check_parts(kind, thing, is_right(kind, thing))

    def test_items_as_lists(self):
        for kind in ["item", "up"]:
            self.check_parts(kind, [0, 1], False)
            self.check_parts(kind, [7, 9], False)

    def test_items_that_are_no_names(self):
        for thing in [
            (0,), (0, 1, 1), (-1, 1), (8, 1), (0, 0), (0, -1), (True, 1), (False, 1), (0, True), (0, None), ("0", 1),
            (0, "1"), (None, None), ((0, 1), 1), (0, 1.0), (0, [1]),
        ]:
            for kind in ["item", "up"]:
                self.check_parts(kind, thing, False)

    def test_items_of_which_the_clock_tells(self):
        for hand, number in enumerate(EIGHT_CLOCK):
            for kind in ["item", "up"]:
                if hand != 3:
                    self.check_parts(kind, (hand, number - 1), number > 1)
                    self.check_parts(kind, (hand, number), number > 0)
                self.check_parts(kind, (hand, number + 1), False)
                self.check_parts(kind, (hand, SIXTY), False)

    def test_the_deeds_own_name_is_no_item(self):
        for kind in ["item", "up"]:
            self.check_parts(kind, (3, 4), True)
            self.check_parts(kind, (3, 5), False)
            self.check_parts(kind, (3, 6), False)
        self.check((0, (1,), ("put", (0, 1), (0,), "")), 1, False)
        self.check((0, (1,), ("take", (0, 1))), 1, False)
        self.check((0, (2,), ("take", (0, 1))), 1, True)

    def test_an_item_may_be_named_twice(self):
        self.check_what(("join", (0, 1), (0, 1)), True)
        self.check_what(("move", (0, 1), (0, 1), (0,)), True)

    def test_items_are_never_none(self):
        self.check_parts("item", None, False)
        self.check_parts("up", None, True)

    def test_places(self):
        for count, answer in [(0, False), (1, True), (63, True), (64, True), (65, False)]:
            self.check_parts("place", (3,) * count, answer)
            self.check_parts("place", (-SIXTY,) * count, answer)
        for thing in [[0], [3, -1], (0, True), (False,), (None,), (0, "1"), (1.0,), (0, [1]), "0", 0, None]:
            self.check_parts("place", thing, False)

    def test_texts(self):
        for text in ["", " ", "a", "  a  b  ", "~", "!", "a" * 59, "a" * 60, " " * 60]:
            self.check_parts("text", text, True)
        for text in [
            "a" * 61, " " * 61, "a" * 4000, "\n", "\t", "a\nb", "a\tb", "a" * 59 + "\n", "\ta", "a\n", None, 0, True,
            b"a", ["a"], ("a",),
        ]:
            self.check_parts("text", text, False)

    def test_truths(self):
        for thing, answer in [(True, True), (False, True), (1, False), (0, False), (None, False), ("yes", False)]:
            self.check_parts("truth", thing, answer)

    def test_whom(self):
        for thing, answer in [
            (None, True), (0, True), (7, True), (8, False), (9, False), (-1, False), (True, False), (False, False),
            ("nobody", False), ("0", False), ((0, 1), False), (1.0, False),
        ]:
            self.check_parts("whom", thing, answer)
        for whom, answer in [(0, True), (1, False), (None, True)]:
            self.check((0, (5,), ("due", (0, 1), whom)), 1, answer)

    def test_at(self):
        for thing, answer in [
            (-1, False), (0, True), (1, True), (60, True), (61, True), (SIXTY, True), (-SIXTY, False), (True, False),
            (False, False), (None, False), ("0", False), (0.0, False),
        ]:
            self.check_parts("at", thing, answer)

    def test_numbers_of_off_and_on(self):
        for thing, answer in [
            (-1, False), (0, False), (1, True), (2, True), (4, True), (5, False), (6, False), (SIXTY, False),
            (True, False), (False, False), (None, False), ("1", False), ((3, 1), False),
        ]:
            self.check_parts("number", thing, answer)
        for word in ["off", "on"]:
            self.check((0, (1,), (word, 1)), 1, False)
            self.check((0, (2,), (word, 1)), 1, True)
            self.check((0, (2, 9), (word, 3)), 2, False)

    def test_what_was_handed_in_stays(self):
        thing = [0, [1], ["put", None, [0], "a"]]
        is_deed(thing, 1)
        self.assertEqual(thing, [0, [1], ["put", None, [0], "a"]])
        thing = (0, (1,), ["none"])
        is_deed(thing, 1)
        self.assertEqual(thing, (0, (1,), ["none"]))


class TestNameOf(unittest.TestCase):

    def test_the_hand_and_its_number(self):
        for deed in ONE_HAND:
            self.assertEqual(name_of(deed), (0, 5))
        for deed in EIGHT_HANDS:
            self.assertEqual(name_of(deed), (3, 5))
        self.assertEqual(name_of((0, (1,), ("none",))), (0, 1))
        self.assertEqual(name_of((1, (7, 2, 9), ("none",))), (1, 2))
        self.assertEqual(name_of((2, (7, 2, SIXTY), ("none",))), (2, SIXTY))

    def test_it_is_a_tuple(self):
        self.assertIs(type(name_of(ONE_HAND[0])), tuple)


if __name__ == "__main__":
    unittest.main()
