import random
import unittest

from limb.desk import Desk
from limb.errors import LimbError, NoDeed, NoItem, NoPlace, NoQuestion, NoRow
from samples import ODD_THINGS, SIXTY
from test_lines import WRONG

# At the top ink and pen; beneath ink: pot, and beneath this: lid; hand 1 has heard of the first two alone.
START = [
    "0 put top first ink", "0 put 0.1 first pot", "meet 0 1", "0 put 0.2 first lid", "0 put top 0.1 pen",
]


def desk_of(rows, hands=2):
    desk = Desk(hands)
    for row in rows:
        desk.say(row)
    return desk


def all_of(desk, hands=2):
    """All that a desk tells of its hands."""
    return [desk.say(f"{word} {hand}") for hand in range(hands) for word in ["show", "report", "news"]]


class Checked(unittest.TestCase):

    def check(self, desk, rows):
        """Each row, a text, with its answer, the texts parted by `|`; None for no texts."""
        for row, answer in rows:
            with self.subTest(row=row):
                told = desk.say(row)
                self.assertIs(type(told), list)
                self.assertEqual(told, [] if answer is None else answer.split("|"))

    def refused(self, error, rows, row, hands=2):
        """The last row is refused, and the desk tells all afterwards that it would tell without it."""
        with self.subTest(row=row):
            watched = [f"watch {hand} all" for hand in range(hands)]
            # Each desk is told a deed behind the watching, so that there is news which must not be lost.
            rows = list(rows) + watched + ["0 put top first news"]
            desk, other = desk_of(rows, hands), desk_of(rows, hands)
            with self.assertRaises(LimbError) as caught:
                desk.say(row)
            self.assertIs(type(caught.exception), error)
            self.assertEqual(all_of(desk, hands), all_of(other, hands))
            for more in ["0 put top first x", "1 put top first x", "0 undo", "0 redo", "meet 0 1"]:
                self.assertEqual(desk.say(more), other.say(more))
            self.assertEqual(all_of(desk, hands), all_of(other, hands))
            return caught.exception


class TestDeeds(Checked):

    def test_put(self):
        desk = Desk(2)
        self.check(desk, [
            ("0 put top first ink", "0.1"), ("0 put top 0.1 pen", "0.2"), ("0 put 0.1 first black", "0.3"),
            ("0 put top first paper", "0.4"), ("0 put 0.1 0.3 blue", "0.5"), ("0 put top 0.1 pot", "0.6"),
            ("1 put top first own", "1.1"),
            ("show 0", "0.4 - - - paper|0.1 - - - ink|  0.3 - - - black|  0.5 - - - blue|0.6 - - - pot|0.2 - - - pen"),
            ("show 1", "1.1 - - - own"),
        ])

    def test_texts(self):
        desk = Desk(1)
        sixty = "x" * 60
        self.check(desk, [
            ("0 put top first ", "0.1"), ("0 put top 0.1  two  words ", "0.2"), (f"0 put top 0.2 {sixty}", "0.3"),
            ("0 put top 0.3 first", "0.4"), ("0 put top 0.4 0.1 show", "0.5"),
            ("show 0", "0.1 - - - |0.2 - - -  two  words |0.3 - - - " + sixty + "|0.4 - - - first|0.5 - - - 0.1 show"),
            ("0 write 0.1 new text ", "0.6"), ("0 write 0.2 ", "0.7"), (f"0 write 0.4 {sixty}", "0.8"),
            ("0 write 0.5  ", "0.9"),
            ("show 0", f"0.1 - - - new text |0.2 - - - |0.3 - - - {sixty}|0.4 - - - {sixty}|0.5 - - -  "),
        ])

    def test_texts_of_sixty_one_signs(self):
        self.refused(NoDeed, START, "0 put top first " + "x" * 61)
        self.refused(NoDeed, START, "0 put top 0.1 " + " " * 61)
        self.refused(NoDeed, START, "0 write 0.1 " + "x" * 61)
        self.refused(NoDeed, START, "0 write 0.1 " + "x" * 3900)

    def test_move(self):
        self.check(desk_of(START), [
            ("0 move 0.3 top 0.1", "0.5"), ("show 0", "0.1 - - - ink|  0.2 - - - pot|0.3 - - - lid|0.4 - - - pen"),
            ("0 move 0.1 0.4 first", "0.6"),
            ("show 0", "0.3 - - - lid|0.4 - - - pen|  0.1 - - - ink|    0.2 - - - pot"),
            ("0 move 0.4 top first", "0.7"),
            ("show 0", "0.4 - - - pen|  0.1 - - - ink|    0.2 - - - pot|0.3 - - - lid"),
            ("0 move 0.4 top 0.4", "0.8"),
            ("show 0", "0.4 - - - pen|  0.1 - - - ink|    0.2 - - - pot|0.3 - - - lid"),
            ("0 move 0.4 0.2 first", "0.9"),
            ("report 0", "|".join([f"0.{number} done" for number in range(1, 9)] + ["0.9 beneath"])),
        ])

    def test_part(self):
        self.check(desk_of(START), [
            ("0 part 0.1 2", "0.5"),
            ("show 0", "0.1 - - - in|  0.2 - - - pot|    0.3 - - - lid|0.5 - - - k|0.4 - - - pen"),
            ("0 part 0.3 0", "0.6"), ("0 part 0.4 3", "0.7"),
            ("ask 0 depth 0", "0.1 - - - in|0.5 - - - k|0.4 - - - pen|0.7 - - - "),
            ("ask 0 beneath 0.1", "  0.2 - - - pot|    0.3 - - - |    0.6 - - - lid"),
        ])

    def test_part_beyond_the_end(self):
        self.check(desk_of(START), [
            ("0 part 0.1 4", "0.5"), (f"0 part 0.1 {SIXTY}", "0.6"),
            ("report 0", "0.1 done|0.2 done|0.3 done|0.4 done|0.5 far|0.6 far"),
            ("show 0", "0.1 - - - ink|  0.2 - - - pot|    0.3 - - - lid|0.4 - - - pen"),
        ])

    def test_part_below_nought(self):
        for at in ["-1", "-60", f"-{SIXTY}"]:
            self.refused(NoDeed, START, f"0 part 0.1 {at}")

    def test_mark_due_fold(self):
        self.check(desk_of(START), [
            ("0 mark 0.1 yes", "0.5"), ("0 due 0.2 1", "0.6"), ("0 fold 0.3 yes", "0.7"), ("0 due 0.4 0", "0.8"),
            ("show 0", "0.1 x - - ink|  0.2 - 1 - pot|    0.3 - - + lid|0.4 - 0 - pen"),
            ("0 mark 0.1 no", "0.9"), ("0 due 0.2 nobody", "0.10"), ("0 fold 0.3 no", "0.11"),
            ("0 mark 0.2 yes", "0.12"), ("0 fold 0.2 yes", "0.13"), ("0 due 0.2 1", "0.14"),
            ("show 0", "0.1 - - - ink|  0.2 x 1 + pot|    0.3 - - - lid|0.4 - 0 - pen"),
        ])

    def test_join_take_back(self):
        self.check(desk_of(START), [
            ("0 join 0.4 0.2", "0.5"), ("show 0", "0.1 - - - ink|0.4 - - - penpot|  0.3 - - - lid"),
            ("0 take 0.4", "0.6"), ("show 0", "0.1 - - - ink"),
            ("0 back 0.4", "0.7"), ("show 0", "0.1 - - - ink|0.4 - - - penpot|  0.3 - - - lid"),
            ("0 back 0.2", "0.8"), ("show 0", "0.1 - - - ink|  0.2 - - - |0.4 - - - penpot|  0.3 - - - lid"),
            ("report 0", "0.1 done|0.2 done|0.3 done|0.4 done|0.5 kept 0.8|0.6 kept 0.7|0.7 done|0.8 done"),
        ])

    def test_deeds_that_give_way(self):
        # What names a deed that is no item is done, and gives way.
        self.check(desk_of(START + ["0 mark 0.1 yes"]), [
            ("0 write 0.5 x", "0.6"), ("0 take 0.5", "0.7"), ("0 join 0.5 0.1", "0.8"), ("0 move 0.5 top first", "0.9"),
            ("report 0", "0.1 done|0.2 done|0.3 done|0.4 done|0.5 done|0.6 none|0.7 none|0.8 none|0.9 none"),
        ])

    def test_places_are_of_the_hands_own_outline(self):
        desk = desk_of(["0 put top first a", "0 put top 0.1 b", "meet 0 1", "1 put top 0.1 c", "0 put top 0.1 d"])
        self.check(desk, [
            ("show 0", "0.1 - - - a|0.3 - - - d|0.2 - - - b"), ("show 1", "0.1 - - - a|1.1 - - - c|0.2 - - - b"),
            ("meet 0 1", "1 1"), ("1 put top 1.1 e", "1.2"), ("1 put top 0.3 f", "1.3"),
            ("show 1", "0.1 - - - a|0.3 - - - d|1.1 - - - c|1.3 - - - f|1.2 - - - e|0.2 - - - b"),
        ])

    def test_a_part_is_behind_the_item_beneath_its_own_up(self):
        desk = desk_of(["0 put top first a", "0 put 0.1 first bc", "0 put 0.1 0.2 d", "0 take 0.3", "0 put 0.1 0.2 e"])
        self.check(desk, [
            ("0 part 0.2 1", "0.6"), ("show 0", "0.1 - - - a|  0.2 - - - b|  0.6 - - - c|  0.5 - - - e"),
        ])

    def test_eight_hands_and_one(self):
        desk = Desk(8)
        self.check(desk, [
            ("7 put top first a", "7.1"), ("meet 7 3", "0 1"), ("3 due 7.1 7", "3.1"), ("show 3", "7.1 - 7 - a"),
        ])
        self.assertRaises(NoRow, desk.say, "8 undo")
        desk = Desk(1)
        self.check(desk, [("0 put top first a", "0.1"), ("meet 0 0", "0 0")])
        self.assertRaises(NoRow, desk.say, "1 undo")


class TestRefused(Checked):

    def test_no_row(self):
        for row in WRONG:
            self.refused(NoRow, START, row)

    def test_any_thing(self):
        for thing in ODD_THINGS + [["show 0"], ("show", 0), b"show 0"]:
            self.refused(NoRow, START, thing)

    def test_a_wrong_row_ahead_of_all_else(self):
        for row in ["0 put 9.9 9.9", "0 move 9.9 9.9 x", "0 part 9.9 -0", "0 write 9.9", "0 due 9.9 2", "0 mark 9.9 1"]:
            self.refused(NoRow, START, row)

    def test_items_of_which_it_has_not_heard(self):
        for item in ["1.1", "0.6", "9.1", f"{SIXTY}.{SIXTY}"]:
            for row in [
                f"0 write {item} x", f"0 mark {item} yes", f"0 due {item} 1", f"0 fold {item} no", f"0 take {item}",
                f"0 back {item}", f"0 join {item} 0.1", f"0 join 0.1 {item}", f"0 move {item} top first",
            ]:
                self.refused(NoDeed, START, row)
        # Hand 1 knows of two deeds alone.
        self.refused(NoDeed, START, "1 write 0.3 x")
        self.assertEqual(desk_of(START).say("1 write 0.2 x"), ["1.1"])

    def test_no_item(self):
        for row, name in [
            ("0 put 0.9 first x", (0, 9)), ("0 put 9.1 first x", (9, 1)), ("0 put 0.9 0.8 x", (0, 9)),
            ("0 put top 0.9 x", (0, 9)), ("0 put top 0.2 x", (0, 2)), ("0 put 0.1 0.1 x", (0, 1)),
            ("0 put 0.1 0.4 x", (0, 4)), ("0 move 0.4 0.9 first", (0, 9)), ("0 move 0.4 0.1 0.3", (0, 3)),
            ("0 move 0.4 top 9.9", (9, 9)), ("0 part 0.9 0", (0, 9)), ("0 part 9.9 0", (9, 9)),
            (f"0 part {SIXTY}.1 0", (SIXTY, 1)), ("1 put 0.4 first x", (0, 4)), ("1 put 0.2 0.3 x", (0, 3)),
        ]:
            self.assertEqual(self.refused(NoItem, START, row).name, name)

    def test_no_item_where_it_is_gone(self):
        rows = START + ["0 take 0.2"]
        for row, name in [
            ("0 put 0.2 first x", (0, 2)), ("0 put 0.3 first x", (0, 3)), ("0 put 0.2 0.3 x", (0, 2)),
            ("0 put 0.1 0.2 x", (0, 2)), ("0 move 0.4 0.3 first", (0, 3)), ("0 move 0.4 0.1 0.2", (0, 2)),
            ("0 part 0.2 0", (0, 2)), ("0 part 0.3 0", (0, 2)),
        ]:
            self.assertEqual(self.refused(NoItem, rows, row).name, name)

    def test_a_place_is_asked_for_ahead_of_the_deed(self):
        for row, name in [
            ("0 put 0.9 first " + "x" * 61, (0, 9)), ("0 put top 0.9 " + "x" * 61, (0, 9)),
            ("0 move 9.9 0.8 first", (0, 8)), ("0 move 9.9 top 0.8", (0, 8)), ("0 part 0.9 -1", (0, 9)),
        ]:
            self.assertEqual(self.refused(NoItem, START, row).name, name)

    def test_no_place(self):
        # Between two neighbours lies a longer place; one behind it makes a neighbour of that length again.
        rows = ["0 put top first a", "0 put top 0.1 b"]
        for length in range(2, 65):
            low = len(rows) + 1
            rows += [f"0 put top 0.{max(low - 2, 1)} x", f"0 put top 0.{low} x"]
        low = len(rows) - 1
        for row in [
            f"0 put top 0.{low} x", f"0 put top 0.{low} " + "x" * 61, f"0 move 9.9 top 0.{low}", f"0 part 0.{low} -1",
            f"0 part 0.{low} 0", f"0 move 0.1 top 0.{low}",
        ]:
            self.refused(NoPlace, rows, row)
        self.assertEqual(desk_of(rows).say(f"0 put top 0.{low + 1} x"), [f"0.{low + 2}"])

    def test_no_question(self):
        for text, at in [("", 0), (" all", 0), ("all ", 1), ("some", 0), ("all by", 2), ("( all", 2), ("all back", 1)]:
            for word in ["ask", "watch"]:
                self.assertEqual(self.refused(NoQuestion, START, f"{word} 0 {text}").at, at)

    def test_a_refused_watch_leaves_the_one_before(self):
        desk = desk_of(["watch 0 done", "0 put top first a", "0 mark 0.1 yes"])
        self.assertRaises(NoQuestion, desk.say, "watch 0 some")
        self.check(desk, [("news 0", "put 0 0.1 x - - a"), ("news 0", None)])


class TestTurns(Checked):

    def test_undo_and_redo(self):
        self.check(desk_of(START), [
            ("0 redo", "nothing"), ("1 undo", "nothing"), ("1 redo", "nothing"),
            ("0 undo", "0.5"), ("show 0", "0.1 - - - ink|  0.2 - - - pot|    0.3 - - - lid"),
            ("0 undo", "0.6"), ("0 undo", "0.7"), ("show 0", "0.1 - - - ink"), ("0 undo", "0.8"), ("show 0", None),
            ("0 undo", "nothing"), ("0 redo", "0.9"), ("0 redo", "0.10"), ("show 0", "0.1 - - - ink|  0.2 - - - pot"),
            ("report 0", "|".join(
                ["0.1 done", "0.2 done", "0.3 off 0.6", "0.4 off 0.5"] + [f"0.{number} done" for number in range(5, 11)]
            )),
            ("0 redo", "0.11"), ("0 redo", "0.12"), ("0 redo", "nothing"),
            ("show 0", "0.1 - - - ink|  0.2 - - - pot|    0.3 - - - lid|0.4 - - - pen"),
        ])

    def test_nothing_does_nothing(self):
        desk = Desk(1)
        self.check(desk, [
            ("0 undo", "nothing"), ("0 redo", "nothing"), ("report 0", None), ("0 put top first a", "0.1"),
        ])


class TestMeet(Checked):

    def test_two(self):
        self.check(desk_of(START), [
            ("1 write 0.1 x", "1.1"), ("meet 0 1", "1 2"), ("meet 0 1", "0 0"), ("meet 1 0", "0 0"),
            ("show 0", "0.1 - - - x|  0.2 - - - pot|    0.3 - - - lid|0.4 - - - pen"),
            ("show 1", "0.1 - - - x|  0.2 - - - pot|    0.3 - - - lid|0.4 - - - pen"),
            ("0 write 0.1 y", "0.5"), ("meet 1 0", "1 0"),
            ("show 1", "0.1 - - - y|  0.2 - - - pot|    0.3 - - - lid|0.4 - - - pen"),
        ])

    def test_itself(self):
        self.check(desk_of(START), [("meet 0 0", "0 0"), ("meet 1 1", "0 0")])

    def test_by_way_of_another_one(self):
        desk = desk_of(["0 put top first a", "2 put top first b"], 3)
        self.check(desk, [
            ("meet 0 1", "0 1"), ("meet 1 2", "1 1"), ("show 2", "0.1 - - - a|2.1 - - - b"), ("show 0", "0.1 - - - a"),
            ("meet 0 2", "1 0"), ("show 0", "0.1 - - - a|2.1 - - - b"),
        ])


class TestAsk(Checked):

    def test_show_over_three_depths(self):
        self.check(desk_of(START + ["0 put 0.3 first x", "0 put 0.1 first y"]), [
            ("show 0", "0.1 - - - ink|  0.6 - - - y|  0.2 - - - pot|    0.3 - - - lid|      0.5 - - - x|0.4 - - - pen"),
            ("show 1", "0.1 - - - ink|  0.2 - - - pot"),
        ])

    def test_nothing_to_show(self):
        self.check(Desk(1), [
            ("show 0", None), ("ask 0 all", None), ("report 0", None), ("watch 0 all", None), ("news 0", None),
        ])

    def test_ask(self):
        self.check(desk_of(START + ["0 mark 0.3 yes", "0 due 0.4 1"]), [
            ("ask 0 all", "0.1 - - - ink|  0.2 - - - pot|    0.3 x - - lid|0.4 - 1 - pen"),
            ("ask 0 done", "    0.3 x - - lid"), ("ask 0 not free", "0.4 - 1 - pen"), ("ask 0 due 0", None),
            ("ask 0 leaf by text", "    0.3 x - - lid|0.4 - 1 - pen"),
            ("ask 0 beneath 0.1 by place back", "    0.3 x - - lid|  0.2 - - - pot"),
            ("ask 0 says p", "  0.2 - - - pot|0.4 - 1 - pen"), ("ask 1 all", "0.1 - - - ink|  0.2 - - - pot"),
        ])

    def test_report_with_and_without_by(self):
        desk = desk_of(START + [
            "meet 0 1", "0 write 0.1 a", "1 write 0.1 b", "0 take 0.4", "1 mark 0.4 yes", "0 mark 0.2 yes", "0 undo",
        ])
        first = "0.1 done|0.2 done|0.3 done|0.4 done|"
        self.check(desk, [
            ("report 1", first + "1.1 done|1.2 done"), ("meet 0 1", "2 4"),
            ("report 0", first + "0.5 over 1.1|1.1 done|0.6 kept 1.2|1.2 done|0.7 off 0.8|0.8 done"),
        ])
        self.assertEqual(desk.say("report 0"), desk.say("report 1"))

    def test_lists_are_the_askers_own(self):
        desk = desk_of(START + ["watch 0 all"])
        for row in ["show 0", "ask 0 all", "report 0", "watch 0 all", "news 0", "0 undo", "0 redo", "meet 0 1"]:
            desk.say(row).clear()
        self.assertEqual(len(desk.say("show 0")), 4)
        self.assertEqual(desk.say("news 0"), [])
        self.assertEqual(len(desk.say("report 0")), 6)


class TestNews(Checked):

    def test_where_nothing_is_watched(self):
        self.check(desk_of(START + ["watch 0 all", "0 put top first x"]), [("news 1", None)])

    def test_watch_tells_the_rows(self):
        self.check(desk_of(START), [
            ("watch 0 depth 1", "0.1 - - - ink|  0.2 - - - pot|0.4 - - - pen"), ("watch 0 done", None),
            ("watch 1 all by text back", "  0.2 - - - pot|0.1 - - - ink"),
        ])

    def test_behind_none_one_and_several_rows(self):
        self.check(desk_of(START), [
            ("watch 0 all", "0.1 - - - ink|  0.2 - - - pot|    0.3 - - - lid|0.4 - - - pen"),
            ("news 0", None), ("0 take 0.4", "0.5"), ("news 0", "cut 3"), ("news 0", None),
            ("0 put top 0.1 x", "0.6"), ("news 0", "put 3 0.6 - - - x"),
            ("0 take 0.2", "0.7"), ("0 put top 0.6 y", "0.8"), ("0 undo", "0.9"), ("news 0", "cut 1|cut 1"),
            ("news 0", None),
        ])

    def test_a_row_of_news_is_written_as_shown(self):
        self.check(desk_of(START + ["watch 0 done"]), [
            ("0 mark 0.3 yes", "0.5"), ("0 due 0.3 1", "0.6"), ("0 fold 0.3 yes", "0.7"), ("0 write 0.3  a", "0.8"),
            ("news 0", "put 0     0.3 x 1 +  a"), ("0 mark 0.3 no", "0.9"), ("news 0", "cut 0"),
        ])

    def test_with_other_rows_between(self):
        for between in [
            "show 0", "ask 0 all", "report 0", "meet 0 0", "news 1", "watch 1 all", "show 1", "1 undo", "0 redo",
        ]:
            desk = desk_of(START + ["watch 0 all", "0 put top first x", between])
            self.check(desk, [("news 0", "put 0 0.5 - - - x")])

    def test_what_comes_by_a_meeting(self):
        self.check(desk_of(START + ["watch 1 all"]), [
            ("meet 0 1", "0 2"), ("news 1", "put 2     0.3 - - - lid|put 3 0.4 - - - pen"), ("news 1", None),
        ])

    def test_watch_in_the_stead_of_one_before(self):
        self.check(desk_of(START + ["watch 0 all", "0 mark 0.2 yes"]), [
            ("watch 0 done", "  0.2 x - - pot"), ("news 0", None), ("0 put top first x", "0.6"), ("news 0", None),
            ("0 mark 0.6 yes", "0.7"), ("news 0", "put 0 0.6 x - - x"),
        ])

    def test_each_hand_has_its_own(self):
        self.check(desk_of(START + ["watch 0 all", "watch 1 all", "0 put top first x", "1 put top first y"]), [
            ("news 1", "put 0 1.1 - - - y"), ("news 0", "put 0 0.5 - - - x"), ("meet 0 1", "1 3"),
            ("news 0", "put 1 1.1 - - - y"), ("0 undo", "0.6"), ("news 0", "cut 0"),
            ("news 1", "put 0 0.5 - - - x|put 4     0.3 - - - lid|put 5 0.4 - - - pen"),
        ])

    def test_as_few_as_can_be(self):
        # One row of four is moved to the end: it is cut and put, the others stay.
        desk = desk_of(["0 put top first a", "0 put top 0.1 b", "0 put top 0.2 c", "0 put top 0.3 d", "watch 0 all"])
        self.check(desk, [("0 move 0.1 top 0.4", "0.5"), ("news 0", "cut 0|put 3 0.1 - - - a")])


class TestByChance(unittest.TestCase):

    def some_row(self, chance, hands):
        hand, item = chance.randrange(hands), self.some_item(chance, hands)
        up = chance.choice(["top", self.some_item(chance, hands)])
        after = chance.choice(["first", self.some_item(chance, hands)])
        other = self.some_item(chance, hands)
        return chance.choice([
            f"{hand} put {up} {after} x", f"{hand} put top first y", f"{hand} move {item} {up} {after}",
            f"{hand} part {item} {chance.randint(-1, 2)}", f"{hand} write {item} abc", f"{hand} mark {item} yes",
            f"{hand} due {item} {chance.choice(['nobody', chance.randrange(hands)])}", f"{hand} fold {item} yes",
            f"{hand} join {item} {other}", f"{hand} take {item}", f"{hand} back {item}", f"{hand} undo", f"{hand} redo",
            f"meet {hand} {chance.randrange(hands)}", f"{hand} put {up} first z",
        ])

    def some_item(self, chance, hands):
        return f"{chance.randrange(hands)}.{chance.randint(1, 6)}"

    def test_rows_by_chance(self):
        for seed in range(12):
            chance = random.Random(seed)
            desk = desk_of(["0 put top first a", "0 put 0.1 first b", "meet 0 1", "meet 0 2"], 3)
            shown = desk.say("watch 0 all")
            asks = [f"{word} {hand}" for word in ["show", "report"] for hand in range(3)]
            refused = 0
            for each in range(70):
                before = [desk.say(row) for row in asks]
                try:
                    answer = desk.say(self.some_row(chance, 3))
                    self.assertEqual(len(answer), 1)
                except LimbError:
                    refused += 1
                    self.assertEqual([desk.say(row) for row in asks], before)
                if each % 7 == 0:
                    for text in desk.say("news 0"):
                        word, at, row = (text + " ").split(" ", 2)
                        shown[int(at):int(at) + (word == "cut")] = [row[:-1]] if word == "put" else []
                    self.assertEqual(shown, desk.say("show 0"))
            self.assertGreater(refused, 5)
            for row in ["meet 0 1", "meet 1 2", "meet 0 2", "meet 0 1"]:
                desk.say(row)
            for word in ["show", "report", "ask"]:
                told = [desk.say(f"{word} {hand}" + (" seen by text" if word == "ask" else "")) for hand in range(3)]
                self.assertEqual(told, told[:1] * 3)
                self.assertNotEqual(told[0], [])


if __name__ == "__main__":
    unittest.main()
