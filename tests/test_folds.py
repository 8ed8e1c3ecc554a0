import random
import unittest

from limb.deeds import is_deed, name_of
from limb.folds import counting, steps_of, words_of
from limb.orders import ready_of
from limb.plain import Plain, lets_by
from samples import by_one_hand, by_turns, check_lists, in_order, put, some_deeds


class Checked(unittest.TestCase):

    def check(self, ready, words, steps):
        """These words, and these steps of the deeds by their numbers in the list."""
        names = [name_of(deed) for deed in ready]
        with self.subTest(ready=ready):
            for deed in ready:
                self.assertIs(is_deed(deed, len(deed[1])), True)
            self.assertEqual(ready_of(ready), ready)
            self.assertEqual(words_of(ready), list(zip(names, words.split())))
            self.assertEqual(steps_of(ready), [(names[at], step) for at, step in sorted(steps.items())])
            off = [name for name, word in words_of(ready) if word == "off"]
            self.assertEqual(counting(ready), [deed for deed in ready if name_of(deed) not in off])


class TestWords(Checked):

    def test_no_deeds(self):
        self.check([], "", {})

    def test_each_word_that_is_a_step(self):
        ready = by_one_hand([
            put("abc"), put("de", (0, 1), (1,)), ("move", (0, 2), None, (-1,)), ("write", (0, 2), "two"),
            ("mark", (0, 1), True), ("due", (0, 1), 0), ("fold", (0, 1), True), ("part", (0, 1), 2, (5, 5)),
            ("join", (0, 1), (0, 2)), ("mark", (0, 8), False), ("due", (0, 8), None), ("fold", (0, 8), False),
            ("move", (0, 8), (0, 1), (2,)),
        ])
        self.check(ready, "done " * 13, {
            0: ("put", (0, 1), None, (0,), "abc"),
            1: ("put", (0, 2), (0, 1), (1,), "de"),
            2: ("move", (0, 2), None, (-1,)),
            3: ("write", (0, 2), "two"),
            4: ("mark", (0, 1), True),
            5: ("due", (0, 1), 0),
            6: ("fold", (0, 1), True),
            7: ("part", (0, 1), 2, (0, 8), (5, 5)),
            8: ("join", (0, 1), (0, 2)),
            9: ("mark", (0, 8), False),
            10: ("due", (0, 8), None),
            11: ("fold", (0, 8), False),
            12: ("move", (0, 8), (0, 1), (2,)),
        })

    def test_each_word_that_is_no_step(self):
        ready = by_one_hand([put(), ("take", (0, 1)), ("back", (0, 1)), ("none",), ("on", 1), ("on", 3)])
        self.check(ready, "done " * 6, {0: ("put", (0, 1), None, (0,), "abc")})

    def test_texts_that_read_like_words(self):
        ready = by_one_hand([put("none"), ("write", (0, 1), "off"), ("write", (0, 1), "none")])
        self.check(ready, "done done done", {
            0: ("put", (0, 1), None, (0,), "none"), 1: ("write", (0, 1), "off"), 2: ("write", (0, 1), "none"),
        })

    def test_names_of_other_hands(self):
        ready = by_turns([(1, put("a")), (0, put("bc", (1, 1))), (1, ("part", (0, 1), 1, (7,)))])
        self.check(ready, "done done done", {
            0: ("put", (1, 1), None, (0,), "a"),
            1: ("put", (0, 1), (1, 1), (0,), "bc"),
            2: ("part", (0, 1), 1, (1, 2), (7,)),
        })

    def test_a_part_with_nothing_ahead_or_behind(self):
        ready = by_one_hand([put("abc"), ("part", (0, 1), 3, (1,)), ("part", (0, 2), 0, (1,))])
        self.check(ready, "done done done", {
            0: ("put", (0, 1), None, (0,), "abc"),
            1: ("part", (0, 1), 3, (0, 2), (1,)),
            2: ("part", (0, 2), 0, (0, 3), (1,)),
        })


class TestOff(Checked):

    def test_off(self):
        self.check(by_one_hand([put(), ("off", 1)]), "off done", {})

    def test_on_behind_it(self):
        step = ("put", (0, 1), None, (0,), "abc")
        self.check(by_one_hand([put(), ("off", 1), ("on", 1)]), "done done done", {0: step})

    def test_off_behind_that(self):
        self.check(by_one_hand([put(), ("off", 1), ("on", 1), ("off", 1)]), "off done done done", {})

    def test_off_twice_and_on_once(self):
        step = ("put", (0, 1), None, (0,), "abc")
        self.check(by_one_hand([put(), ("off", 1), ("off", 1), ("on", 1)]), "done done done done", {0: step})

    def test_on_without_an_off(self):
        step = ("put", (0, 1), None, (0,), "abc")
        self.check(by_one_hand([put(), ("on", 1), ("none",)]), "done done done", {0: step})

    def test_one_number_alone(self):
        ready = by_one_hand([put("a"), put("b"), put("c"), ("off", 1), ("off", 2), ("on", 1), ("on", 3)])
        self.check(ready, "done off done done done done done", {
            0: ("put", (0, 1), None, (0,), "a"), 2: ("put", (0, 3), None, (0,), "c"),
        })

    def test_an_off_works_on_deeds_between_too(self):
        ready = by_one_hand([put("abc"), ("write", (0, 1), "x"), ("part", (0, 1), 2, (0,)), ("off", 2)])
        self.check(ready, "done off done done", {
            0: ("put", (0, 1), None, (0,), "abc"), 2: ("part", (0, 1), 2, (0, 3), (0,)),
        })

    def test_an_off_that_names_an_off(self):
        self.check(by_one_hand([put(), ("off", 1), ("off", 2)]), "off done turn", {})
        self.check(by_one_hand([put(), ("off", 1), ("off", 2), ("off", 3)]), "off done turn turn", {})

    def test_an_off_that_names_an_on(self):
        step = ("put", (0, 1), None, (0,), "abc")
        self.check(by_one_hand([put(), ("off", 1), ("on", 1), ("off", 3)]), "done done done turn", {0: step})

    def test_an_on_that_names_an_off_or_an_on(self):
        self.check(by_one_hand([put(), ("off", 1), ("on", 2)]), "off done turn", {})
        step = ("put", (0, 1), None, (0,), "abc")
        self.check(by_one_hand([put(), ("on", 1), ("on", 2), ("on", 3)]), "done done turn turn", {0: step})

    def test_each_other_word_may_be_off(self):
        whats = [
            ("move", (0, 2), None, (9,)), ("write", (0, 1), "x"), ("mark", (0, 1), True), ("due", (0, 1), 0),
            ("fold", (0, 1), True), ("part", (0, 1), 1, (0,)), ("join", (0, 1), (0, 2)), ("take", (0, 1)),
            ("back", (0, 1)), ("none",),
        ]
        for what in whats:
            self.check(by_one_hand([put("a"), put("b"), what, ("off", 3)]), "done done off done", {
                0: ("put", (0, 1), None, (0,), "a"), 1: ("put", (0, 2), None, (0,), "b"),
            })

    def test_one_hands_offs_dont_touch_anothers_deeds(self):
        ready = by_turns([(0, put("a")), (1, put("b")), (0, ("none",)), (1, ("off", 1))])
        self.check(ready, "done off done done", {0: ("put", (0, 1), None, (0,), "a")})

    def test_one_hands_ons_dont_touch_anothers_offs(self):
        ready = by_turns([(0, put("a")), (1, put("b")), (0, ("off", 1)), (1, ("on", 1))])
        self.check(ready, "off done done done", {1: ("put", (1, 1), None, (0,), "b")})

    def test_an_off_of_a_number_that_is_an_off_of_another_hand(self):
        ready = by_turns([(0, put("a")), (0, ("off", 1)), (1, put("b")), (1, put("c")), (1, ("off", 2))])
        self.check(ready, "off done done off done", {2: ("put", (1, 1), None, (0,), "b")})

    def test_turned_on_again_is_as_if_never_off(self):
        ready = by_one_hand([put("a"), put("b", (0, 1)), ("off", 1), ("on", 1), ("write", (0, 1), "c")])
        never = by_one_hand([put("a"), put("b", (0, 1)), ("none",), ("none",), ("write", (0, 1), "c")])
        self.assertEqual(steps_of(ready), steps_of(never))
        self.assertEqual(words_of(ready), words_of(never))


class TestGivingWay(Checked):

    def test_a_put_whose_up_is_off(self):
        ready = by_one_hand([put("a"), put("b", (0, 1), (3, 4)), ("off", 1)])
        self.check(ready, "off top done", {1: ("put", (0, 2), None, (3, 4), "b")})

    def test_a_put_whose_up_was_never_put(self):
        ready = by_one_hand([("none",), put("b", (0, 1))])
        self.check(ready, "done top", {1: ("put", (0, 2), None, (0,), "b")})

    def test_a_put_whose_up_gave_way(self):
        ready = by_one_hand([put("abc"), ("part", (0, 1), 4, (0,)), put("b", (0, 2)), put("c", (0, 3))])
        self.check(ready, "done far top done", {
            0: ("put", (0, 1), None, (0,), "abc"),
            2: ("put", (0, 3), None, (0,), "b"),
            3: ("put", (0, 4), (0, 3), (0,), "c"),
        })

    def test_a_put_beneath_the_top_is_done(self):
        self.check(by_one_hand([put("a")]), "done", {0: ("put", (0, 1), None, (0,), "a")})

    def test_an_item_that_is_not_there(self):
        for what in [
            ("move", (0, 1), None, (0,)), ("move", (0, 1), (0, 2), (0,)), ("move", (0, 2), (0, 1), (0,)),
            ("move", (0, 1), (0, 1), (0,)), ("write", (0, 1), "x"), ("mark", (0, 1), True), ("due", (0, 1), None),
            ("fold", (0, 1), True), ("part", (0, 1), 0, (0,)), ("part", (0, 1), 99, (0,)),
            ("join", (0, 1), (0, 2)), ("join", (0, 2), (0, 1)), ("join", (0, 1), (0, 1)), ("take", (0, 1)),
            ("back", (0, 1)),
        ]:
            step = {1: ("put", (0, 2), None, (0,), "b")}
            self.check(by_one_hand([put("a"), put("b"), what, ("off", 1)]), "off done none done", step)
            self.check(by_one_hand([("none",), put("b"), what]), "done done none", step)

    def test_beneath(self):
        steps = {0: ("put", (0, 1), None, (0,), "a"), 1: ("put", (0, 2), (0, 1), (0,), "b")}
        for what in [
            ("move", (0, 1), (0, 1), (0,)), ("move", (0, 1), (0, 2), (0,)), ("join", (0, 2), (0, 1)),
            ("join", (0, 1), (0, 1)),
        ]:
            self.check(by_one_hand([put("a"), put("b", (0, 1)), what]), "done done beneath", steps)

    def test_two_moves_apart(self):
        ready = in_order([
            (0, (1, 0), put("a")), (0, (2, 0), put("b")),
            (0, (3, 0), ("move", (0, 1), (0, 2), (0,))), (1, (2, 1), ("move", (0, 2), (0, 1), (0,))),
        ])
        self.check(ready, "done done done beneath", {
            0: ("put", (0, 1), None, (0,), "a"),
            1: ("put", (0, 2), None, (0,), "b"),
            2: ("move", (0, 1), (0, 2), (0,)),
        })

    def test_far(self):
        steps = {0: ("put", (0, 1), None, (0,), "abc")}
        for at in [4, 60, 10 ** 59]:
            self.check(by_one_hand([put("abc"), ("part", (0, 1), at, (0,))]), "done far", steps)

    def test_far_by_what_came_ahead_of_it(self):
        ready = in_order([
            (0, (1, 0), put("abc")), (0, (2, 0), ("write", (0, 1), "")), (1, (1, 1), ("part", (0, 1), 2, (0,))),
        ])
        self.check(ready, "done done far", {
            0: ("put", (0, 1), None, (0,), "abc"), 1: ("write", (0, 1), ""),
        })

    def test_what_gave_way_changes_nothing(self):
        ready = by_one_hand([
            put("abc"), ("part", (0, 1), 9, (0,)), ("write", (0, 2), "x"), ("take", (0, 2)), ("part", (0, 1), 3, (0,)),
            ("write", (0, 5), "y"),
        ])
        self.check(ready, "done far none none done done", {
            0: ("put", (0, 1), None, (0,), "abc"),
            4: ("part", (0, 1), 3, (0, 5), (0,)),
            5: ("write", (0, 5), "y"),
        })

    def test_what_is_taken_is_there_still(self):
        ready = by_one_hand([put("a"), ("take", (0, 1)), put("b", (0, 1)), ("write", (0, 1), "x"), ("take", (0, 1))])
        self.check(ready, "done done done done done", {
            0: ("put", (0, 1), None, (0,), "a"),
            2: ("put", (0, 3), (0, 1), (0,), "b"),
            3: ("write", (0, 1), "x"),
        })

    def test_what_was_joined_is_there_still(self):
        ready = by_one_hand([put("a"), put("b"), ("join", (0, 1), (0, 2)), put("c", (0, 2)), ("back", (0, 2))])
        self.check(ready, "done " * 5, {
            0: ("put", (0, 1), None, (0,), "a"),
            1: ("put", (0, 2), None, (0,), "b"),
            2: ("join", (0, 1), (0, 2)),
            3: ("put", (0, 4), (0, 2), (0,), "c"),
        })


class TestLists(unittest.TestCase):

    def test_the_list_handed_in_stays_and_those_told_are_new(self):
        for ask in [counting, words_of, steps_of]:
            check_lists(self, ask, in_order(some_deeds(51, 3, 30)))

    def test_counting_tells_another_list_when_all_count(self):
        ready = by_one_hand([put()])
        told = counting(ready)
        told.clear()
        self.assertEqual(len(ready), 1)


class TestByChance(unittest.TestCase):

    def off_names(self, ready):
        """[20], looked up from the end."""
        names = []
        for deed in ready:
            turns = [
                other[2][0] for other in ready
                if other[0] == deed[0] and other[2] in [("off", name_of(deed)[1]), ("on", name_of(deed)[1])]
            ]
            if deed[2][0] not in ("off", "on") and turns and turns[-1] == "off":
                names.append(name_of(deed))
        return names

    def test_words_and_steps_go_together(self):
        seen = {}
        for seed in range(60):
            ready = in_order(some_deeds(seed, 1 + seed % 4, 60))
            words, steps = words_of(ready), steps_of(ready)
            off = self.off_names(ready)
            self.assertEqual([name for name, word in words], [name_of(deed) for deed in ready])
            self.assertEqual([name for name, word in words if word == "off"], off)
            self.assertEqual(counting(ready), [deed for deed in ready if name_of(deed) not in off])
            no_steps = ["take", "back", "off", "on", "none"]
            whats = {name_of(deed): deed[2] for deed in ready}
            stepped = [name for name, word in words if word in ("done", "top") and whats[name][0] not in no_steps]
            self.assertEqual([name for name, step in steps], stepped)
            self.assertIs(lets_by([step for name, step in steps]), True)
            for name, step in steps:
                self.assertEqual(step[0], whats[name][0])
            for name, word in words:
                seen[word] = seen.get(word, 0) + 1
        self.assertEqual(sorted(seen), sorted("off none beneath far top turn done".split()))
        self.assertGreater(min(seen.values()), 15)

    def test_what_is_off_is_as_if_nothing_was_done(self):
        for seed in range(20):
            ready = in_order(some_deeds(seed, 3, 40))
            off = self.off_names(ready)
            nothing = [deed if name_of(deed) not in off else deed[:2] + (("none",),) for deed in ready]
            kept = [deed for deed in nothing if deed[2][0] not in ("off", "on")]
            without = [deed if deed in kept else deed[:2] + (("none",),) for deed in nothing]
            self.assertEqual(steps_of(ready), steps_of(without))

    def test_the_same_in_whatever_order_they_came(self):
        deeds = some_deeds(61, 4, 60)
        words, steps = words_of(ready_of(deeds)), steps_of(ready_of(deeds))
        chance = random.Random(61)
        for each in range(5):
            ready = ready_of(chance.sample(deeds, 60))
            self.assertEqual((words_of(ready), steps_of(ready)), (words, steps))

    def test_no_item_is_beneath_itself(self):
        for seed in range(20):
            outline = Plain()
            for name, step in steps_of(in_order(some_deeds(seed, 3, 80))):
                outline.step(step)
            self.assertEqual(sorted(row[1] for row in outline.rows()), sorted(outline.names()))
            for name in outline.names():
                self.assertIs(outline.beneath(name, name), False)

    def test_three_hundred_deeds(self):
        ready = in_order(some_deeds(62, 8, 300))
        self.assertEqual(len(words_of(ready)), 300)
        self.assertIs(lets_by([step for name, step in steps_of(ready)]), True)


if __name__ == "__main__":
    unittest.main()
