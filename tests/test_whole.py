"""[3], the promise over the whole program."""

import random
import unittest

from limb.answers import asked
from limb.clocks import raised
from limb.deeds import name_of
from limb.hands import Hand
from limb.notes import read, written
from limb.plain import Plain
from limb.questions import read_question
from limb.stores import Store, meet
from limb.takes import history_of, outline_of, report_of, takings_of
from limb.views import View
from samples import after_changes, all_of, fewest, in_order, names_in, some_deeds, some_what

WORDS = "put move write mark due fold part join take back off on none".split()
SEEDS = range(8)


def all_told(ready):
    """Outline, report and history to the letter."""
    return all_of(outline_of(ready)), report_of(ready), history_of(ready)


def hands_at_work(seed, hands, count):
    """Hands that do deeds, undo, redo and meet by chance; they don't all know the same at the end."""
    chance = random.Random(seed)
    keepers = [Hand(hands, me) for me in range(hands)]
    for each in range(count):
        me = chance.randrange(hands)
        keeper = keepers[me]
        deed = chance.random()
        if deed < 0.12:
            keeper.undo()
        elif deed < 0.2:
            keeper.redo()
        elif deed < 0.35:
            keeper.meet_with(chance.choice(keepers))
        else:
            known = [name_of(old) for old in keeper.ready() if old[2][0] in ("put", "part")]
            clock = keeper.clock()
            keeper.do(some_what(chance, me, raised(clock, me), known[:6] if deed < 0.9 else names_in(clock)))
    return keepers


def deeds_of(keepers):
    store = Store(len(keepers))
    for keeper in keepers:
        for deed in keeper.ready():
            store.hear(deed)
    return store.ready()


def replaced_by_nothing(deeds, names):
    return [deed[:2] + (("none",),) if name_of(deed) in names else deed for deed in deeds]


class TestTheSameForAll(unittest.TestCase):

    def test_all_words_are_among_them(self):
        words = {deed[2][0] for seed in SEEDS for deed in deeds_of(hands_at_work(seed, 3, 60))}
        self.assertEqual(sorted(words), sorted(WORDS))

    def test_hands_that_meet_in_unlike_orders(self):
        for seed in SEEDS:
            told = []
            for order in range(4):
                keepers = hands_at_work(seed, 3, 60)
                pairs = [(one, other) for one in range(3) for other in range(3)] * 2
                random.Random(order).shuffle(pairs)
                for one, other in pairs:
                    keepers[one].meet_with(keepers[other])
                for keeper in keepers:
                    told.append((all_told(keeper.ready()), all_of(keeper.outline()), keeper.report(), keeper.clock()))
            for each in told:
                self.assertEqual(each, told[0])

    def test_deeds_told_in_any_order_and_more_than_once(self):
        for seed in SEEDS:
            deeds = deeds_of(hands_at_work(seed, 4, 60))
            chance = random.Random(seed)
            for each in range(3):
                store = Store(4)
                for deed in chance.sample(deeds + deeds[::2], len(deeds) + len(deeds[::2])):
                    store.hear(deed)
                self.assertEqual(store.ready(), deeds)
                self.assertEqual(all_told(store.ready()), all_told(deeds))

    def test_deeds_told_as_texts(self):
        for seed in SEEDS:
            deeds = deeds_of(hands_at_work(seed, 3, 40))
            self.assertEqual([read(written(deed), 3) for deed in deeds], deeds)

    def test_stores_that_meet(self):
        for seed in SEEDS:
            deeds = some_deeds(seed, 3, 50, True)
            chance = random.Random(seed)
            stores = [Store(3) for each in range(3)]
            for deed in deeds:
                for store in chance.sample(stores, chance.randint(1, 3)):
                    store.hear(deed)
            for one, other in [(0, 1), (1, 2), (2, 0), (0, 1)]:
                meet(stores[one], stores[other])
            for store in stores:
                self.assertEqual(all_told(store.ready()), all_told(in_order(deeds)))


class TestTheOutline(unittest.TestCase):

    def each_ready(self):
        for seed in range(20):
            yield in_order(some_deeds(seed, 1 + seed % 5, 60, seed % 3 > 0))
            yield deeds_of(hands_at_work(seed, 3, 40))

    def test_no_item_is_beneath_itself(self):
        for ready in self.each_ready():
            outline = outline_of(ready)
            for name in outline.names():
                self.assertIs(outline.beneath(name, name), False)

    def test_what_was_put_stands_but_where_it_was_taken_away(self):
        for ready in self.each_ready():
            outline = outline_of(ready)
            rows = [row[1] for row in outline.rows()]
            report = dict((name, word) for name, word, by in report_of(ready))
            gone = [item for name, item, by in takings_of(ready) if by is None]
            self.assertEqual(len(rows), len(set(rows)))
            for deed in ready:
                name = name_of(deed)
                if deed[2][0] == "put" and report[name] != "off":
                    above = [each for each in gone if each == name or outline.beneath(name, each)]
                    self.assertIs(name in rows, above == [])

    def test_each_hands_own_deeds_stand_in_their_order(self):
        for ready in self.each_ready():
            steps = [name for name, step in history_of(ready) if step[0] != "gone"]
            for names in [[name for name, word, by in report_of(ready)], steps]:
                for hand in range(len(ready[0][1])):
                    numbers = [name[1] for name in names if name[0] == hand]
                    self.assertEqual(numbers, sorted(set(numbers)))

    def test_it_is_told_by_what_rule_and_by_which_deed(self):
        for ready in self.each_ready():
            names = [name_of(deed) for deed in ready]
            report = report_of(ready)
            self.assertEqual([row[0] for row in report], names)
            for name, word, by in report:
                self.assertIn(word, "off none beneath far top turn done kept over".split())
                self.assertIs(by is not None, word in ("off", "kept", "over"))
                self.assertIn(by, names + [None])

    def test_a_plain_outline_takes_each_history(self):
        for ready in self.each_ready():
            plain = Plain()
            for name, step in history_of(ready):
                self.assertIsNone(plain.step(step))
            self.assertEqual(plain.rows(), outline_of(ready).rows())


class TestTurnedOff(unittest.TestCase):

    def worked(self, seed):
        """A hand, what it does, and another one that has heard of it and goes on meanwhile."""
        keepers = hands_at_work(seed, 2, 25)
        one, other = keepers
        one.meet_with(other)
        chance = random.Random(seed)
        known = one.outline().names() or names_in(one.clock())
        deed = one.do(some_what(chance, 0, raised(one.clock(), 0), known))
        while deed[2][0] in ("none", "off", "on"):
            deed = one.do(some_what(chance, 0, raised(one.clock(), 0), known))
        one.meet_with(other)
        return chance, one, other, deed

    def go_on(self, chance, keeper):
        known = [name_of(deed) for deed in keeper.ready() if deed[2][0] in ("put", "part")]
        keeper.do(some_what(chance, 1, raised(keeper.clock(), 1), known))

    def test_off_is_as_if_nothing_was_done(self):
        for seed in range(25):
            chance, one, other, deed = self.worked(seed)
            self.go_on(chance, other)
            off = one.undo()
            self.assertEqual(off[2], ("off", name_of(deed)[1]))
            one.meet_with(other)
            without = replaced_by_nothing(one.ready(), [name_of(deed), name_of(off)])
            self.assertEqual(all_of(one.outline()), all_of(outline_of(without)))
            self.assertEqual(history_of(one.ready()), history_of(without))

    def test_turned_on_again_as_if_never_off(self):
        for seed in range(25):
            chance, one, other, deed = self.worked(seed)
            off = one.undo()
            self.go_on(chance, other)
            turned_on = one.redo()
            self.assertEqual(turned_on[2], ("on", name_of(deed)[1]))
            one.meet_with(other)
            never = replaced_by_nothing(one.ready(), [name_of(off), name_of(turned_on)])
            self.assertEqual(all_told(one.ready()), all_told(never))


class TestKeptViews(unittest.TestCase):

    def test_a_view_is_what_its_question_tells(self):
        questions = ["all", "not done by text", "seen and depth 1", "free by place back", "leaf by due"]
        for seed, text in enumerate(questions):
            view = View(text)
            chance = random.Random(seed)
            keepers = hands_at_work(seed, 3, 20)
            for each in range(12):
                chance.choice([keepers[0].undo, keepers[0].redo, lambda: keepers[0].meet_with(keepers[1])])()
                keepers[1].meet_with(keepers[2])
                rows = keepers[0].outline().rows()
                before = view.rows()
                changes = view.follow(rows)
                self.assertEqual(view.rows(), asked(read_question(text), rows))
                self.assertEqual(after_changes(self, before, changes), view.rows())
                self.assertEqual(len(changes), fewest(before, view.rows()))


if __name__ == "__main__":
    unittest.main()
