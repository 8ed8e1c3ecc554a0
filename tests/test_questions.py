import random
import unittest

from limb.errors import NoQuestion
from limb.questions import read_question, written_question
from samples import SIXTY, kinds_of

ALL, DONE, FOLDED, FREE, LEAF, SEEN = ("all",), ("done",), ("folded",), ("free",), ("leaf",), ("seen",)
KEYS = ["place", "text", "size", "depth", "due"]

# Texts, and the conditions to which they are read; each is written so too.
PLAIN = {
    "all": ALL, "done": DONE, "folded": FOLDED, "free": FREE, "leaf": LEAF, "seen": SEEN,
    "due 0": ("due", 0), "due 7": ("due", 7), "due 10": ("due", 10), "depth 0": ("depth", 0),
    "depth 12": ("depth", 12), "due 999": ("due", 999), f"depth {SIXTY}": ("depth", SIXTY),
    f"due {SIXTY}": ("due", SIXTY), "beneath 0.1": ("beneath", (0, 1)), "beneath 12.34": ("beneath", (12, 34)),
    f"beneath {SIXTY}.{SIXTY}": ("beneath", (SIXTY, SIXTY)), "says ink": ("says", "ink"), "says a": ("says", "a"),
    "says and": ("says", "and"), "says or": ("says", "or"), "says not": ("says", "not"), "says (": ("says", "("),
    "says )": ("says", ")"), "says by": ("says", "by"), "says says": ("says", "says"), "says back": ("says", "back"),
    "says 01": ("says", "01"), "says ~!.": ("says", "~!."), "says all": ("says", "all"),
}

MADE = {
    "not all": ("not", ALL),
    "not not done": ("not", ("not", DONE)),
    "all and done": ("and", (ALL, DONE)),
    "all or done": ("or", (ALL, DONE)),
    "all and done and free": ("and", (ALL, DONE, FREE)),
    "all or done or free or leaf": ("or", (ALL, DONE, FREE, LEAF)),
    "all and done or free": ("or", (("and", (ALL, DONE)), FREE)),
    "all or done and free": ("or", (ALL, ("and", (DONE, FREE)))),
    "all and done or free and leaf": ("or", (("and", (ALL, DONE)), ("and", (FREE, LEAF)))),
    "not all and done": ("and", (("not", ALL), DONE)),
    "not all or not done": ("or", (("not", ALL), ("not", DONE))),
    "( all or done ) and free": ("and", (("or", (ALL, DONE)), FREE)),
    "free and ( all or done )": ("and", (FREE, ("or", (ALL, DONE)))),
    "( all or done ) or free": ("or", (("or", (ALL, DONE)), FREE)),
    "free or ( all or done )": ("or", (FREE, ("or", (ALL, DONE)))),
    "( all and done ) and free": ("and", (("and", (ALL, DONE)), FREE)),
    "free and ( all and done )": ("and", (FREE, ("and", (ALL, DONE)))),
    "not ( all or done )": ("not", ("or", (ALL, DONE))),
    "not ( all and done )": ("not", ("and", (ALL, DONE))),
    "not ( not all and done )": ("not", ("and", (("not", ALL), DONE))),
    "not not ( all or done )": ("not", ("not", ("or", (ALL, DONE)))),
    "( all or done and free ) and not ( leaf or seen )": (
        "and", (("or", (ALL, ("and", (DONE, FREE)))), ("not", ("or", (LEAF, SEEN)))),
    ),
    "( all or ( done or free ) ) or leaf": ("or", (("or", (ALL, ("or", (DONE, FREE)))), LEAF)),
    "( ( all or done ) and free or leaf ) and seen": (
        "and", (("or", (("and", (("or", (ALL, DONE)), FREE)), LEAF)), SEEN),
    ),
    "due 1 and depth 2 or beneath 0.3 and says ink": (
        "or", (("and", (("due", 1), ("depth", 2))), ("and", (("beneath", (0, 3)), ("says", "ink")))),
    ),
    "says or or says and and says not": (
        "or", (("says", "or"), ("and", (("says", "and"), ("says", "not")))),
    ),
    "( says ) or says ( ) and all": ("and", (("or", (("says", ")"), ("says", "("))), ALL)),
}

# Texts with brackets that are not written.
LOOSE = {
    "( all )": ALL,
    "( ( all ) )": ALL,
    "( all and done )": ("and", (ALL, DONE)),
    "( all or done )": ("or", (ALL, DONE)),
    "not ( all )": ("not", ALL),
    "( not all )": ("not", ALL),
    "not ( not all )": ("not", ("not", ALL)),
    "( all and done ) or free": ("or", (("and", (ALL, DONE)), FREE)),
    "( all ) or ( done )": ("or", (ALL, DONE)),
    "( not all ) and ( says ) )": ("and", (("not", ALL), ("says", ")"))),
}


def nested(opening, count, text="all"):
    return " ".join([opening] * count + [text] + ([")"] * count if opening == "(" else []))


class TestRead(unittest.TestCase):

    def check(self, text, question):
        with self.subTest(text=text):
            self.assertEqual(read_question(text), question)
            self.assertEqual(kinds_of(read_question(text)), kinds_of(question))

    def test_each_form(self):
        for text, condition in {**PLAIN, **MADE, **LOOSE}.items():
            self.check(text, (condition, "place", False))

    def test_keys_and_back(self):
        for text, condition in {**PLAIN, **MADE, **LOOSE}.items():
            for key in KEYS:
                self.check(text + " by " + key, (condition, key, False))
                self.check(text + " by " + key + " back", (condition, key, True))

    def test_twelve_deep(self):
        condition = ALL
        for each in range(12):
            condition = ("not", condition)
        self.check(nested("not", 12), (condition, "place", False))
        self.check(nested("(", 12), (ALL, "place", False))
        self.check(nested("not", 6, nested("(", 6)), (condition[1][1][1][1][1][1], "place", False))
        self.check("not ( " * 6 + "all" + " )" * 6, (condition[1][1][1][1][1][1], "place", False))

    def test_twelve_deep_more_than_once(self):
        text = nested("(", 12)
        self.check(text + " and " + text, (("and", (ALL, ALL)), "place", False))
        self.check(nested("not", 11, "( all or done )") + " or " + text + " by due", (
            ("or", (read_question(nested("not", 11, "( all or done )"))[0], ALL)), "due", False,
        ))

    def test_long_texts(self):
        self.check("all or " * 500 + "all", (("or", (ALL,) * 501), "place", False))
        self.check("says " + "a" * 3900, (("says", "a" * 3900), "place", False))

    def test_the_same_each_time(self):
        self.assertEqual(read_question("all or done"), read_question("all or done"))


class TestRefused(unittest.TestCase):

    def check(self, text, at):
        with self.subTest(text=text):
            with self.assertRaises(NoQuestion) as caught:
                read_question(text)
            self.assertEqual(caught.exception.at, at)
            self.assertIs(type(caught.exception.at), int)

    def test_blanks(self):
        for text, at in [
            ("", 0), (" ", 0), ("  ", 0), (" all", 0), ("all ", 1), ("all  and done", 1), ("all and  done", 2),
            ("all and ", 2), ("not ", 1), ("not  all", 1), ("( all ", 2), ("(  all )", 1), ("( all )  by text", 3),
            ("all by ", 2), ("all by  text", 2), ("all by text ", 3), ("all by text back ", 4), ("due ", 1),
            ("due  1", 1), ("says ", 1), ("says  a", 1), ("beneath ", 1),
        ]:
            self.check(text, at)

    def test_unknown_words(self):
        for text, at in [
            ("some", 0), ("All", 0), ("ALL", 0), ("all.", 0), ("not some", 1), ("( some )", 1), ("all and some", 2),
            ("all or some", 2), ("all some", 1), ("all by name", 2), ("all by text forth", 3), ("(all)", 0),
            ("( all)", 1), ("all by Text", 2), ("all by text Back", 3), ("1", 0), ("place", 0), ("text", 0),
        ]:
            self.check(text, at)

    def test_words_that_stand_at_a_wrong_place(self):
        for text, at in [
            ("and", 0), ("or", 0), (")", 0), ("by", 0), ("by text", 0), ("back", 0), ("and all", 0), ("or all", 0),
            ("all and and done", 2), ("all and or done", 2), ("all or and done", 2), ("all not done", 1),
            ("all done", 1), ("not and", 1), ("not or all", 1), ("not by text", 1), ("( )", 1), ("( and all )", 1),
            ("all ( done )", 1), ("all and )", 2), ("all and by text", 2), ("( all by text )", 2),
            ("( all ) ( done )", 3), ("not all not", 2),
        ]:
            self.check(text, at)

    def test_a_word_missing_at_the_end(self):
        for text, at in [
            ("not", 1), ("not not", 2), ("(", 1), ("( all", 2), ("( all and", 3), ("( ( all )", 4), ("all and", 2),
            ("all or", 2), ("all or done and", 4), ("all by", 2), ("due", 1), ("depth", 1), ("beneath", 1), ("says", 1),
            ("all and due", 3), ("not (", 2), ("( says )", 3), ("( due 1", 3),
        ]:
            self.check(text, at)

    def test_too_much_at_the_end(self):
        for text, at in [
            ("all all", 1), ("all )", 1), ("( all ) )", 3), ("( all ) all", 3), ("all by text text", 3),
            ("all by text by text", 3), ("all by text back back", 4), ("all by text and done", 3),
            ("all by text )", 3), ("all by text back by due", 4), ("due 1 2", 2), ("says two words", 2),
            ("depth 1 )", 2), ("beneath 0.1 0.2", 2), ("all by due 1", 3),
        ]:
            self.check(text, at)

    def test_by_and_back(self):
        for text, at in [
            ("all back", 1), ("all by back", 2), ("not all back", 2), ("( all ) back", 3), ("all by by", 2),
            ("all or done back", 3),
        ]:
            self.check(text, at)

    def test_numbers(self):
        for word in [
            "", "00", "01", "007", "-1", "-0", "+1", "1.0", "a", "1a", "all", "(", ")", "not", "1" * 61, "0" * 60,
            "nobody", "1_0",
        ]:
            self.check("due " + word, 1)
            self.check("depth " + word, 1)
            self.check("all and not due " + word + " by text", 4)

    def test_items(self):
        for word in [
            "", "0", "1", "0.0", "0.01", "00.1", "0.", ".1", "0.1.1", "-1.1", "0.-1", "0,1", "a.b", "0.1" + "1" * 60,
            "1" * 61 + ".1", "top", "all",
        ]:
            self.check("beneath " + word, 1)

    def test_thirteen_deep(self):
        self.check(nested("not", 13), 12)
        self.check(nested("(", 13), 12)
        self.check(nested("not", 12, "( all )"), 12)
        self.check(nested("(", 12, "not all"), 12)
        self.check("( not " * 6 + "( all" + " )" * 7, 12)
        self.check("all or " + nested("(", 13), 14)
        self.check(nested("(", 12) + " and " + nested("not", 13), 25 + 1 + 12)
        self.check(nested("not", 40), 12)

    def test_a_beginning_that_is_twelve_deep(self):
        self.check(" ".join(["("] * 12), 12)
        self.check(" ".join(["not"] * 12), 12)
        self.check(nested("(", 12)[:-2], 24)

    def test_where_it_goes_wrong_first(self):
        self.check("all some )", 1)
        self.check("( all some", 2)
        self.check("some (", 0)

    def test_each_beginning_of_a_question(self):
        for text in list(MADE) + list(LOOSE) + ["not all and due 1 by due back"]:
            words = text.split(" ")
            for count in range(1, len(words)):
                start = " ".join(words[:count])
                try:
                    read_question(start)
                except NoQuestion as error:
                    self.assertEqual(error.at, count, start)
                # A word that stands nowhere in a question, put behind any beginning, is the first wrong one.
                if words[count - 1] != "says":
                    self.check(start + " nowhere", count)


class TestWritten(unittest.TestCase):

    def test_each_form(self):
        for text, condition in {**PLAIN, **MADE}.items():
            with self.subTest(text=text):
                self.assertEqual(written_question((condition, "place", False)), text)

    def test_keys_and_back(self):
        for text, condition in {**PLAIN, **MADE}.items():
            self.assertEqual(written_question((condition, "place", True)), text + " by place back")
            for key in KEYS[1:]:
                self.assertEqual(written_question((condition, key, False)), text + " by " + key)
                self.assertEqual(written_question((condition, key, True)), text + " by " + key + " back")

    def test_no_brackets_but_those(self):
        for text, condition in LOOSE.items():
            written = written_question((condition, "place", False))
            self.assertEqual(read_question(written), (condition, "place", False))
            self.assertLess(len(written), len(text))
        self.assertEqual(written_question(read_question("( all ) by place")), "all")

    def test_forty_within_one_another(self):
        for around in [
            lambda inner: ("not", inner), lambda inner: ("or", (inner, ALL)), lambda inner: ("and", (ALL, inner)),
        ]:
            condition = DONE
            for each in range(45):
                condition = around(condition)
            text = written_question((condition, "place", False))
            self.assertEqual(text.count("("), 0 if condition[0] == "not" else 44)
            self.assertEqual(text.count("("), text.count(")"))
            self.assertEqual(text.count("done"), 1)

    def test_ands_in_ors_need_none(self):
        condition = DONE
        for each in range(20):
            condition = ("or", (("and", (condition, ALL)), FREE))
        text = written_question((condition, "place", False))
        self.assertEqual(text.count("("), 19)


class TestByChance(unittest.TestCase):

    def some_condition(self, chance, depth):
        if depth == 0 or chance.random() < 0.2:
            return chance.choice(list(PLAIN.values()))
        word = chance.choice(["not", "and", "or"])
        if word == "not":
            return (word, self.some_condition(chance, depth - 1))
        return (word, tuple(self.some_condition(chance, depth - 1) for each in range(chance.randint(2, 3))))

    def test_what_is_written_is_read_to_the_same(self):
        chance = random.Random(91)
        for each in range(300):
            question = (self.some_condition(chance, 5), chance.choice(KEYS), chance.random() < 0.5)
            text = written_question(question)
            self.assertEqual(read_question(text), question)
            self.assertEqual(written_question(read_question(text)), text)

    def test_words_by_chance(self):
        chance = random.Random(92)
        words = "all done not ( ) and or by back place text due 0 3 says beneath 0.1 depth x".split() + [""]
        read = 0
        for each in range(6000):
            text = " ".join(chance.choice(words) for count in range(chance.randint(1, 6)))
            try:
                question = read_question(text)
            except NoQuestion as error:
                self.check_at(text.split(" "), error.at)
            else:
                read += 1
                self.assertEqual(read_question(written_question(question)), question)
        self.assertGreater(read, 100)

    def check_at(self, words, at):
        """What stands ahead of the word is the beginning of a question; with the word it is not."""
        self.assertLessEqual(at, len(words))
        self.assertTrue(self.can_go_on(words[:at]), words)
        if at < len(words):
            self.assertFalse(self.can_go_on(words[:at + 1]), words)

    def can_go_on(self, words):
        """Whether a question begins so; tried by a few endings, one of which ends whatever can be ended."""
        closed = [[")"] * count for count in range(7)]
        return any(
            self.is_question(words + middle + end)
            for middle in [[], ["all"], ["0"], ["0.1"], ["x"], ["text"]] for end in closed
        )

    def is_question(self, words):
        try:
            read_question(" ".join(words))
        except NoQuestion:
            return False
        return words != []


if __name__ == "__main__":
    unittest.main()
