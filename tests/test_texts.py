import unittest

from limb.texts import is_figures, is_item_word, is_text, item_in, written_numbers
from samples import ODD_THINGS, SIXTY


class TestIsText(unittest.TestCase):

    def test_each_sign(self):
        for number in range(0, 300):
            with self.subTest(number=number):
                self.assertIs(is_text(chr(number)), 32 <= number <= 126 and number != 37)

    def test_one_wrong_sign_anywhere(self):
        for sign in "\n\t\r\x7f\x00\xe9" + chr(37):
            for text in [sign + "ab", "a" + sign + "b", "ab" + sign]:
                with self.subTest(text=text):
                    self.assertIs(is_text(text), False)

    def test_any_length(self):
        for text in ["", " ", "   ", " a  b ", "a" * 4000, "~" * 61]:
            self.assertIs(is_text(text), True)

    def test_other_things(self):
        for thing in ODD_THINGS:
            with self.subTest(thing=thing):
                self.assertIs(is_text(thing), isinstance(thing, str))


class TestIsFigures(unittest.TestCase):

    def test_figures(self):
        for text in ["0", "1", "9", "10", "907", "1" * 60, str(SIXTY)]:
            with self.subTest(text=text):
                self.assertIs(is_figures(text), True)

    def test_no_figures(self):
        for text in [
            "", "00", "01", "-1", "-0", "+1", " 1", "1 ", "1_0", "1.0", "a", "1a", "1" * 61, "0" * 60, "\u0661",
            "\u00b2", "1\n", "-", "1" * 5000,
        ]:
            with self.subTest(text=text):
                self.assertIs(is_figures(text), False)


class TestItemWords(unittest.TestCase):

    def test_items(self):
        for name in [(0, 1), (7, 10), (100, 907), (SIXTY, SIXTY)]:
            word = written_numbers(name, ".")
            self.assertIs(is_item_word(word), True)
            self.assertEqual(item_in(word), name)

    def test_no_items(self):
        for word in [
            "", ".", "0", "0.", ".1", "0.0", "0.01", "00.1", "01.1", "0.1.1", "0.1.", ".0.1", "-1.1", "0.-1", "0,1",
            "0.a", "a.1", "0. 1", " 0.1", "0.1 ", "1" * 61 + ".1", "1." + "1" * 61, "top",
        ]:
            with self.subTest(word=word):
                self.assertIs(is_item_word(word), False)


if __name__ == "__main__":
    unittest.main()
