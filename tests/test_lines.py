import unittest

from limb.errors import NoRow
from limb.lines import read_row, written_change, written_name, written_report, written_row
from samples import ODD_THINGS, SIXTY, kinds_of, row

# Rows of a desk of two hands, and what they are read to.
ROWS = {
    "0 put top first ink": ("put", 0, None, None, "ink"),
    "1 put 0.1 9.12 two words": ("put", 1, (0, 1), (9, 12), "two words"),
    "0 put top first ": ("put", 0, None, None, ""),
    "0 put top first  a  b ": ("put", 0, None, None, " a  b "),
    "0 put 0.1 first top": ("put", 0, (0, 1), None, "top"),
    "0 move 0.1 top first": ("move", 0, (0, 1), None, None),
    "1 move 0.1 1.2 0.3": ("move", 1, (0, 1), (1, 2), (0, 3)),
    "0 part 0.1 0": ("part", 0, (0, 1), 0),
    "0 part 0.1 12": ("part", 0, (0, 1), 12),
    "0 part 0.1 -3": ("part", 0, (0, 1), -3),
    f"0 part 0.1 -{SIXTY}": ("part", 0, (0, 1), -SIXTY),
    f"0 part {SIXTY}.{SIXTY} {SIXTY}": ("part", 0, (SIXTY, SIXTY), SIXTY),
    "0 write 0.1 new text": ("write", 0, (0, 1), "new text"),
    "0 write 0.1 ": ("write", 0, (0, 1), ""),
    "0 write 0.1 " + "x" * 61: ("write", 0, (0, 1), "x" * 61),
    "0 mark 0.1 yes": ("mark", 0, (0, 1), True),
    "0 mark 0.1 no": ("mark", 0, (0, 1), False),
    "0 due 0.1 0": ("due", 0, (0, 1), 0),
    "0 due 0.1 1": ("due", 0, (0, 1), 1),
    "0 due 0.1 nobody": ("due", 0, (0, 1), None),
    "0 fold 0.1 yes": ("fold", 0, (0, 1), True),
    "0 fold 0.1 no": ("fold", 0, (0, 1), False),
    "0 join 0.1 1.2": ("join", 0, (0, 1), (1, 2)),
    "0 take 0.1": ("take", 0, (0, 1)),
    "1 back 8.1": ("back", 1, (8, 1)),
    "0 undo": ("undo", 0),
    "1 redo": ("redo", 1),
    "meet 0 1": ("meet", 0, 1),
    "meet 1 1": ("meet", 1, 1),
    "show 0": ("show", 0),
    "ask 0 all by text": ("ask", 0, "all by text"),
    "ask 1 ": ("ask", 1, ""),
    "ask 1  all": ("ask", 1, " all"),
    "report 1": ("report", 1),
    "watch 0 done": ("watch", 0, "done"),
    "watch 0 ": ("watch", 0, ""),
    "news 1": ("news", 1),
}

WRONG = [
    # No row at all, or an unknown word.
    "", " ", "  ", "0", "put", "show", "undo", "halt", "0 halt", "0 none", "0 off 1", "0 on 1", "halt 0", "Show 0",
    "0 Put top first a", "0 gone 0.1", "0 hear 0.1",
    # The hand and the word in the wrong order.
    "put 0 top first a", "undo 0", "take 0 0.1", "0 show", "0 report", "0 meet 1", "0 ask all", "0 news", "0 watch all",
    "show show", "undo undo", "0 0 undo",
    # A hand that isn't there, or not in such figures.
    "2 put top first a", "8 undo", "-1 undo", "-0 undo", "00 undo", "01 undo", "+1 undo", "a undo", " undo", "1.0 undo",
    "show 2", "show -1", "show 00", "show 01", "show a", "show ", "meet 0 2", "meet 2 0", "meet 0 00", "meet 01 0",
    "meet 0 a", "meet 0 ", "report 2", "news 2", "ask 2 all", "ask 00 all", "ask all", "watch 2 all", "watch all",
    "1" * 61 + " undo", "show " + "1" * 61,
    # Blanks more or fewer, and what stands behind the end.
    " 0 undo", "0  undo", "0 undo ", "0 undo 1", "0 redo ", "0 redo all", "show 0 ", "show  0", "show 0 1", " show 0",
    "meet 0", "meet  0 1", "meet 0  1", "meet 0 1 ", "meet 0 1 1", "report 0 ", "report", "news 0 all", "news",
    "ask 0", "ask", "ask", "ask  0 all", "watch 0", "watch", "0 take", "0 take ", "0 take  0.1", "0 take 0.1 ",
    "0 take 0.1 0.2", "0 back", "0 back 0.1 ", "0 join 0.1", "0 join 0.1 ", "0 join 0.1  0.2", "0 join 0.1 0.2 ",
    "0 join 0.1 0.2 0.3", "0 write", "0 write 0.1", "0 write  0.1 a", "0 mark 0.1", "0 mark 0.1 ", "0 mark 0.1 yes ",
    "0 mark 0.1  yes", "0 mark 0.1 yes no", "0 due 0.1", "0 due 0.1 ", "0 due 0.1 1 ", "0 fold 0.1", "0 fold 0.1 no ",
    "0 part 0.1", "0 part 0.1 ", "0 part 0.1 1 ", "0 part 0.1  1", "0 part 0.1 1 2", "0 move 0.1 top",
    "0 move 0.1 top ", "0 move 0.1 top first ", "0 move 0.1  top first", "0 move 0.1 top first x", "0 put",
    "0 put top", "0 put top first", "0 put  top first a", "0 put top  first a", "0put top first a",
    # Words and figures that aren't what they ought to be.
    "0 put first top a", "0 put nobody first a", "0 put top top a", "0 put Top first a", "0 put 0 first a",
    "0 put 0.0 first a", "0 put 00.1 first a", "0 put 0.01 first a", "0 put -1.1 first a", "0 put 0.1.1 first a",
    "0 put .1 first a", "0 put 0. first a", "0 put top 0 a", "0 put top 0.0 a", "0 put top last a", "0 put top 0,1 a",
    "0 put top 01.1 a", "0 put " + "1" * 61 + ".1 first a", "0 put top 0." + "1" * 61 + " a",
    "0 move top top first", "0 move first top first", "0 move 0.1 first first", "0 move 0.1 top top",
    "0 move 0.1 nobody first", "0 move 0.0 top first", "0 move 0.1 0.0 first", "0 move 0.1 top 0.0",
    "0 part top 1", "0 part 0.0 1", "0 part 0.1 -0", "0 part 0.1 01", "0 part 0.1 -01", "0 part 0.1 +1", "0 part 0.1 a",
    "0 part 0.1 -", "0 part 0.1 --1", "0 part 0.1 1.0", "0 part 0.1 " + "1" * 61, "0 part 0.1 -" + "1" * 61,
    "0 part 0.1 nobody", "0 write top a", "0 write 0.0 a", "0 write nobody a", "0 mark top yes", "0 mark 0.1 Yes",
    "0 mark 0.1 True", "0 mark 0.1 1", "0 mark 0.1 y", "0 due 0.1 2", "0 due 0.1 -1", "0 due 0.1 00", "0 due 0.1 01",
    "0 due 0.1 top", "0 due 0.1 none", "0 due 0.1 yes", "0 due top 1", "0 fold 0.1 maybe", "0 fold top no",
    "0 join top 0.1", "0 join 0.1 top", "0 join 0.1 nobody", "0 join 0.0 0.1", "0 join 0.1 0.0", "0 take top",
    "0 take 0", "0 take 0.0", "0 back top", "0 back 1", "0 back 0.00", "0 take first", "0 take nobody",
    # What is no text.
    "0 put top first a\tb", "0 put top first a\n", "0 write 0.1 \u00e9", "show 0\n", "show\t0", "0\tundo",
    "ask 0 all\n", "0 write 0.1 " + chr(37),
]


class TestReadRow(unittest.TestCase):

    def test_each_row(self):
        for text, told in ROWS.items():
            with self.subTest(row=text):
                self.assertEqual(read_row(text, 2), told)
                self.assertEqual(kinds_of(read_row(text, 2)), kinds_of(told))

    def test_hands(self):
        self.assertEqual(read_row("7 due 0.1 6", 8), ("due", 7, (0, 1), 6))
        self.assertEqual(read_row("meet 7 6", 8), ("meet", 7, 6))
        for text in ["8 undo", "10 undo", "0 due 0.1 8", "show 8", "meet 0 8"]:
            self.assertRaises(NoRow, read_row, text, 8)
        self.assertRaises(NoRow, read_row, "1 undo", 1)

    def test_wrong_rows(self):
        for text in WRONG:
            with self.subTest(row=text):
                self.assertRaises(NoRow, read_row, text, 2)

    def test_any_thing(self):
        for thing in ODD_THINGS + [["show 0"], ("show", 0), b"show 0", "show 0".split()]:
            with self.subTest(thing=thing):
                self.assertRaises(NoRow, read_row, thing, 2)


class TestWritten(unittest.TestCase):

    def test_names(self):
        self.assertEqual(written_name((0, 1)), "0.1")
        self.assertEqual(written_name((7, 120)), "7.120")

    def test_rows(self):
        for told, text in [
            (row(0, 1, "ink"), "0.1 - - - ink"),
            (row(1, 3, "buy ink", True, 1), "  0.3 x 1 - buy ink"),
            (row(0, 3, "", False, None, True), "0.3 - - + "),
            (row(3, 12, " a  b ", True, 0, True), "      0.12 x 0 +  a  b "),
            ((2, (7, 1), "-", False, 7, False), "    7.1 - 7 - -"),
        ]:
            self.assertEqual(written_row(told), text)

    def test_changes(self):
        self.assertEqual(written_change(("cut", 0)), "cut 0")
        self.assertEqual(written_change(("cut", 12)), "cut 12")
        self.assertEqual(written_change(("put", 0, row(0, 1, "ink"))), "put 0 0.1 - - - ink")
        self.assertEqual(written_change(("put", 10, row(1, 1, ""))), "put 10   0.1 - - - ")

    def test_reports(self):
        self.assertEqual(written_report(((0, 2), "over", (1, 3))), "0.2 over 1.3")
        self.assertEqual(written_report(((0, 2), "done", None)), "0.2 done")
        self.assertEqual(written_report(((1, 10), "none", None)), "1.10 none")


if __name__ == "__main__":
    unittest.main()
