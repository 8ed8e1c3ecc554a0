import unittest

from limb.deeds import is_deed
from limb.errors import LimbError, NoText
from limb.notes import read, written
from samples import EIGHT_HANDS, ONE_HAND, SIXTY, kinds_of, some_deeds

FIGURES = "9" * 60

# A deed, and how it is written.
NOTES = [
    ((1, (0, 2), ("put", None, (3, -1), "two words")), "1 0,2 put top 3/-1 two words"),
    ((0, (1,), ("put", None, (0,), "")), "0 1 put top 0 "),
    ((0, (1,), ("put", None, (0,), " ")), "0 1 put top 0  "),
    ((0, (1,), ("put", None, (0,), " a  b ")), "0 1 put top 0  a  b "),
    ((0, (3,), ("put", (0, 2), (-5,), "top")), "0 3 put 0.2 -5 top"),
    ((0, (1,), ("put", None, (0,), "x" * 60)), "0 1 put top 0 " + "x" * 60),
    ((0, (1,), ("put", None, (0,), "01 -0 a,b/c.d")), "0 1 put top 0 01 -0 a,b/c.d"),
    ((0, (1, 0), ("put", None, (1, 2, -3, 0), "a")), "0 1,0 put top 1/2/-3/0 a"),
    ((0, (1,), ("put", None, (SIXTY, -SIXTY), "a")), "0 1 put top " + FIGURES + "/-" + FIGURES + " a"),
    ((0, (1,), ("put", None, (7,) * 64, "a")), "0 1 put top " + "/".join(["7"] * 64) + " a"),
    ((0, (1,), ("put", None, (SIXTY,) * 64, "")), "0 1 put top " + "/".join([FIGURES] * 64) + " "),
    ((2, (4, 0, 1), ("move", (0, 4), (0, 3), (0,))), "2 4,0,1 move 0.4 0.3 0"),
    ((2, (4, 0, 1), ("move", (0, 4), None, (-10, 2))), "2 4,0,1 move 0.4 top -10/2"),
    ((0, (2,), ("write", (0, 1), "new ink")), "0 2 write 0.1 new ink"),
    ((0, (2,), ("write", (0, 1), "")), "0 2 write 0.1 "),
    ((0, (2,), ("write", (0, 1), "  ")), "0 2 write 0.1   "),
    ((0, (2,), ("mark", (0, 1), True)), "0 2 mark 0.1 yes"),
    ((0, (2,), ("mark", (0, 1), False)), "0 2 mark 0.1 no"),
    ((0, (2, 0), ("due", (0, 1), 1)), "0 2,0 due 0.1 1"),
    ((0, (2, 0), ("due", (0, 1), 0)), "0 2,0 due 0.1 0"),
    ((0, (2, 0), ("due", (0, 1), None)), "0 2,0 due 0.1 nobody"),
    ((0, (2,), ("fold", (0, 1), True)), "0 2 fold 0.1 yes"),
    ((0, (2,), ("fold", (0, 1), False)), "0 2 fold 0.1 no"),
    ((0, (2,), ("part", (0, 1), 0, (1, 0))), "0 2 part 0.1 0 1/0"),
    ((0, (2,), ("part", (0, 1), 10 ** 59, (-1,))), "0 2 part 0.1 1" + "0" * 59 + " -1"),
    ((1, (1, 3), ("join", (1, 2), (0, 1))), "1 1,3 join 1.2 0.1"),
    ((7, (10,) * 8, ("take", (6, 10))), "7 10,10,10,10,10,10,10,10 take 6.10"),
    ((0, (2,), ("back", (0, 1))), "0 2 back 0.1"),
    ((0, (2,), ("off", 1)), "0 2 off 1"),
    ((0, (SIXTY,), ("off", SIXTY - 1)), "0 " + FIGURES + " off " + FIGURES[1:] + "8"),
    ((0, (12,), ("on", 11)), "0 12 on 11"),
    ((0, (1,), ("none",)), "0 1 none"),
    ((7, (0, 1, 2, 3, 4, 5, 6, 7), ("none",)), "7 0,1,2,3,4,5,6,7 none"),
    ((0, (2, SIXTY), ("take", (1, SIXTY))), "0 2," + FIGURES + " take 1." + FIGURES),
]

# Texts that are read of two hands; each number in them has one figure.
GOOD = [
    "1 3,4 put 0.2 5/6 ink",
    "1 3,4 put top 5/6/7 ",
    "1 3,4 move 0.2 1.3 5/6",
    "1 3,4 move 0.2 top 5",
    "1 3,4 write 0.2 ink",
    "1 3,4 mark 0.2 yes",
    "1 3,4 due 0.2 1",
    "1 3,4 due 0.2 nobody",
    "1 3,4 fold 0.2 no",
    "1 3,4 part 0.2 7 5/6",
    "1 3,4 join 0.2 1.3",
    "1 3,4 take 0.2",
    "1 3,4 back 0.2",
    "1 3,4 off 2",
    "1 3,4 on 2",
    "1 3,4 none",
]


def has_text(note):
    return note.split(" ")[2] in ("put", "write")


def ahead_of_text(note):
    """How many signs stand ahead of a deed's text, or all where it has none."""
    if not has_text(note):
        return len(note)
    count = 5 if note.split(" ")[2] == "put" else 4
    return len(" ".join(note.split(" ")[:count])) + 1


def figure_places(note):
    return [at for at in range(ahead_of_text(note)) if note[at].isdigit()]


class TestWritten(unittest.TestCase):

    def test_to_the_sign(self):
        for deed, note in NOTES:
            with self.subTest(note=note):
                self.assertEqual(written(deed), note)
                self.assertIs(type(written(deed)), str)


class TestRead(unittest.TestCase):

    def test_to_the_kind(self):
        for deed, note in NOTES:
            with self.subTest(note=note):
                told = read(note, len(deed[1]))
                self.assertEqual(told, deed)
                self.assertEqual(kinds_of(told), kinds_of(deed))

    def test_what_is_read_is_a_deed(self):
        for note in GOOD:
            with self.subTest(note=note):
                self.assertIs(is_deed(read(note, 2), 2), True)
                self.assertEqual(written(read(note, 2)), note)

    def test_both_ways(self):
        for deed in ONE_HAND + EIGHT_HANDS + some_deeds(1, 3, 100):
            with self.subTest(deed=deed):
                told = read(written(deed), len(deed[1]))
                self.assertEqual(told, deed)
                self.assertEqual(kinds_of(told), kinds_of(deed))


class TestNoText(unittest.TestCase):

    def refuse(self, note, hands=2):
        with self.subTest(note=note, hands=hands):
            with self.assertRaises(NoText) as caught:
                read(note, hands)
            self.assertIsInstance(caught.exception, LimbError)

    def test_noughts_ahead_of_figures(self):
        for note in GOOD:
            for at in figure_places(note):
                self.refuse(note[:at] + "0" + note[at:])
                self.refuse(note[:at] + "00" + note[at:])

    def test_noughts_below_nought(self):
        for note in GOOD:
            for at in figure_places(note):
                self.refuse(note[:at] + "-0" + note[at + 1:])
                self.refuse(note[:at] + "-0" + note[at:])
        self.refuse("0 1,0 put top -0 a")
        self.refuse("0 1,0 put top -00 a")
        self.refuse("0 1,0 put top -01 a")
        self.refuse("0 1,0 put top 00 a")
        self.refuse("0 1,0 put top 1/-0 a")

    def test_more_than_sixty_figures(self):
        for note in GOOD:
            for at in figure_places(note):
                self.refuse(note[:at] + "1" * 61 + note[at + 1:])
        place = "0 1,0 put top {} a"
        self.assertEqual(read(place.format("1" * 60), 2)[2][2], (int("1" * 60),))
        self.assertEqual(read(place.format("-" + "1" * 60), 2)[2][2], (-int("1" * 60),))
        for figures in ["1" * 61, "-" + "1" * 61, "1/" + "1" * 61, "1" + "0" * 60, "9" * 3900]:
            self.refuse(place.format(figures))
        self.refuse("0 1," + "1" * 61 + " none")
        self.refuse("0 " + "1" * 61 + ",1 off 1")
        self.refuse("0 2,0 part 0.1 " + "1" * 61 + " 0")
        self.refuse("0 1," + "1" * 61 + " take 1." + "1" * 61)

    def test_more_blanks(self):
        for note in GOOD:
            self.refuse(" " + note)
            for at in [at for at in range(ahead_of_text(note)) if note[at] == " "]:
                if at < ahead_of_text(note) - 1 or not has_text(note):
                    self.refuse(note[:at] + " " + note[at:])
            if not has_text(note):
                self.refuse(note + " ")
                self.refuse(note + "  ")

    def test_blanks_within_numbers(self):
        for note in ["0 1, 0 none", "0 1 ,0 none", "0 2,0 take 0. 1", "0 2,0 take 0 .1", "0 1,0 put top 1/ 2 a",
                     "0 1,0 put top - 1 a"]:
            self.refuse(note)

    def test_fewer_blanks(self):
        for note in GOOD:
            for at in [at for at in range(ahead_of_text(note)) if note[at] == " "]:
                self.refuse(note[:at] + note[at + 1:])

    def test_cut_off(self):
        for note in GOOD:
            for at in range(ahead_of_text(note)):
                if note[:at] not in ("1 3,4 move 0.2 1.3 5", "1 3,4 part 0.2 7 5"):
                    self.refuse(note[:at])

    def test_more_behind(self):
        for note in GOOD:
            if not has_text(note):
                for more in [" 1", " a", " none", " 0.1", " top", "\n", "\t", ",", ".", "/", "x"]:
                    self.refuse(note + more)

    def test_other_signs_in_the_stead_of_figures(self):
        for note in GOOD:
            for at in figure_places(note):
                for sign in ["x", "+", "_", "-", ".", ",", "/", "", " ", "\u0661", "\u00b2", "+1", "1_1", "--1", "1-"]:
                    self.refuse(note[:at] + sign + note[at + 1:])

    def test_empty_numbers(self):
        for note in ["1 ,4 none", "1 3, none", "1 , none", "1 3,4 take .2", "1 3,4 take 0.", "1 3,4 take .",
                     "1 3,4 move 0.2 top 5/", "1 3,4 move 0.2 top /5", "1 3,4 move 0.2 top ", "1 3,4 off ",
                     " 3,4 none", "1  none", "1 3,4 move 0.2 top 5//6", "1 3,,4 none", "1 3,4 take 0..2"]:
            self.refuse(note)

    def test_other_signs_between_numbers(self):
        for note in ["1 3.4 none", "1 3/4 none", "1 3;4 none", "1 3,4 take 0,2", "1 3,4 take 0/2", "1 3,4 take 0:2",
                     "1 3,4 take 2", "1 3,4 take 0.2.1", "1 3,4 move 0.2 top 5,6", "1 3,4 move 0.2 top 5.6",
                     "1 3,4 part 0.2 7.0 5"]:
            self.refuse(note)

    def test_other_words(self):
        for note in ["1 3,4 gone 0.2", "1 3,4 cut 0.2", "1 3,4 nothing", "1 3,4 ", "1 3,4", "1 3,4 undo", "", " ",
                     "  ", "none", "put top 0 a", "1", "1 3,4 putt top 0 a"]:
            self.refuse(note)

    def test_words_in_great_letters(self):
        for note in GOOD:
            words = note.split(" ")
            self.refuse(" ".join(words[:2] + [words[2].upper()] + words[3:]))
            self.refuse(" ".join(words[:2] + [words[2].capitalize()] + words[3:]))
        for note in ["1 3,4 put TOP 5 a", "1 3,4 put Top 5 a", "1 3,4 move 0.2 TOP 5", "1 3,4 due 0.2 NOBODY",
                     "1 3,4 mark 0.2 YES", "1 3,4 mark 0.2 No", "1 3,4 fold 0.2 NO", "1 3,4 fold 0.2 Yes"]:
            self.refuse(note)

    def test_words_where_they_dont_stand(self):
        for note in ["1 3,4 put nobody 5 a", "1 3,4 put None 5 a", "1 3,4 move top top 5", "1 3,4 due 0.2 top",
                     "1 3,4 due 0.2 None", "1 3,4 due 0.2 -", "1 3,4 mark 0.2 True", "1 3,4 mark 0.2 1",
                     "1 3,4 mark 0.2 nobody", "1 3,4 fold 0.2 0", "1 3,4 fold 0.2 top", "1 3,4 take top",
                     "1 3,4 join 0.2 top", "1 3,4 join top 0.2", "1 3,4 write top a", "1 3,4 due yes 1",
                     "1 3,4 off top", "1 3,4 part 0.2 nobody 5", "1 3,4 move 0.2 nobody 5"]:
            self.refuse(note)

    def test_what_would_be_no_deed(self):
        for note in [
            "-1 3,4 none", "2 3,4 none", "1 3,0 none", "1 -1,4 none", "1 3,-4 none", "1 3,4 take 0.4",
            "1 3,4 take 1.4", "1 3,4 take 1.5", "1 3,4 take 2.1", "1 3,4 take 0.0", "1 3,4 take -1.1",
            "1 3,4 take 0.-1", "1 3,4 put 0.4 5 a", "1 3,4 put 1.4 5 a", "1 3,4 move 0.2 1.4 5",
            "1 3,4 join 0.2 1.4", "1 3,4 due 0.2 2", "1 3,4 due 0.2 -1", "1 3,4 part 0.2 -1 5", "1 3,4 off 0",
            "1 3,4 off 4", "1 3,4 off 5", "1 3,4 on 0", "1 3,4 on 4", "1 3,4 on -1", "1 3,4 write 0.2 " + "a" * 61,
            "1 3,4 put top 5 " + "a" * 61, "1 3,4 put top 5 " + " " * 61, "1 3,4 put top " + "/".join(["5"] * 65) + " a",
            "1 3,4 write 0.2 a\tb", "1 3,4 write 0.2 a\n", "1 3,4 put top 5 \n", "1 3,4 put top 5 a\tb",
        ]:
            self.refuse(note)

    def test_among_another_number_of_hands(self):
        for note in GOOD:
            for hands in [1, 3, 8]:
                self.refuse(note, hands)
        self.assertEqual(read("0 1 none", 1), (0, (1,), ("none",)))
        self.refuse("0 1 none", 2)
        self.refuse("0 1,0 none", 1)


if __name__ == "__main__":
    unittest.main()
