import unittest

from limb.errors import (
    Beneath, Far, LimbError, NoDeed, NoItem, NoPlace, NoQuestion, NoRow, NoText, Taken, Twin,
)

REFUSALS = [NoDeed, Twin, NoPlace, NoText, Taken, NoItem, Beneath, Far, NoQuestion, NoRow]


class TestClasses(unittest.TestCase):

    def test_limb_error_is_a_value_error(self):
        self.assertTrue(issubclass(LimbError, ValueError))

    def test_each_refusal_stands_under_limb_error(self):
        for refusal in REFUSALS:
            with self.subTest(refusal=refusal):
                self.assertTrue(issubclass(refusal, LimbError))
                self.assertTrue(issubclass(refusal, ValueError))
                self.assertIsNot(refusal, LimbError)

    def test_no_refusal_stands_under_another_one(self):
        for one in REFUSALS:
            for other in REFUSALS:
                if one is not other:
                    with self.subTest(one=one, other=other):
                        self.assertFalse(issubclass(one, other))

    def test_the_refusals_are_ten(self):
        self.assertEqual(len(set(REFUSALS)), 10)

    def test_names_are_those_of_the_interface(self):
        names = "NoDeed Twin NoPlace NoText Taken NoItem Beneath Far NoQuestion NoRow".split()
        self.assertEqual([refusal.__name__ for refusal in REFUSALS], names)


class TestFields(unittest.TestCase):

    def test_twin_has_a_name(self):
        self.assertEqual(Twin((1, 2)).name, (1, 2))

    def test_no_item_has_a_name(self):
        self.assertEqual(NoItem((0, 10 ** 59)).name, (0, 10 ** 59))
        self.assertIsNone(NoItem(None).name)

    def test_no_question_tells_where(self):
        self.assertEqual(NoQuestion(0).at, 0)
        self.assertEqual(NoQuestion(7).at, 7)

    def test_each_object_has_its_own(self):
        one, other = Twin((0, 1)), Twin((1, 1))
        self.assertEqual([one.name, other.name], [(0, 1), (1, 1)])
        one, other = NoItem((0, 1)), NoItem((1, 1))
        self.assertEqual([one.name, other.name], [(0, 1), (1, 1)])
        one, other = NoQuestion(1), NoQuestion(2)
        self.assertEqual([one.at, other.at], [1, 2])

    def test_fields_are_there_when_it_is_caught(self):
        for error, field, value in [
            (Twin((1, 2)), "name", (1, 2)),
            (NoItem((3, 4)), "name", (3, 4)),
            (NoQuestion(5), "at", 5),
        ]:
            with self.subTest(error=error):
                with self.assertRaises(LimbError) as caught:
                    raise error
                self.assertEqual(getattr(caught.exception, field), value)


if __name__ == "__main__":
    unittest.main()
