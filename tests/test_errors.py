"""The refusals: each class with its field, and how they stand to one another."""

import unittest

from codemend.errors import MendError, NoAct, NoDay, NoFit, NoName, NoPlace, NoRow, NoText, Twice

REFUSALS = [NoPlace, NoText, NoFit, NoName, Twice, NoDay, NoAct, NoRow]


class Standing(unittest.TestCase):
    def test_mend_error_stands_under_value_error(self):
        self.assertTrue(issubclass(MendError, ValueError))

    def test_each_refusal_is_taken_as_mend_error_and_as_value_error(self):
        for refusal in REFUSALS:
            with self.subTest(refusal=refusal.__name__):
                self.assertTrue(issubclass(refusal, MendError))
                self.assertTrue(issubclass(refusal, ValueError))

    def test_no_refusal_is_taken_as_another_one(self):
        for refusal in REFUSALS:
            for other in REFUSALS:
                if refusal.__name__ != other.__name__:
                    with self.subTest(refusal=refusal.__name__, other=other.__name__):
                        self.assertFalse(issubclass(refusal, other))

    def test_mend_error_is_none_of_the_refusals(self):
        for refusal in REFUSALS:
            with self.subTest(refusal=refusal.__name__):
                self.assertFalse(issubclass(MendError, refusal))

    def test_each_class_bears_its_name(self):
        names = [refusal.__name__ for refusal in REFUSALS]
        self.assertEqual(names, ["NoPlace", "NoText", "NoFit", "NoName", "Twice", "NoDay", "NoAct", "NoRow"])
        self.assertEqual(MendError.__name__, "MendError")


class Fields(unittest.TestCase):
    def test_no_place_has_its_place(self):
        for place in [("1", "2a"), (), None]:
            with self.subTest(place=place):
                self.assertEqual(NoPlace(place).place, place)

    def test_no_fit_has_its_why(self):
        self.assertEqual(NoFit("words").why, "words")

    def test_no_act_has_its_name(self):
        self.assertEqual(NoAct("first").name, "first")

    def test_each_error_keeps_its_own_field(self):
        one = NoPlace(("1",))
        other = NoPlace(("2",))
        self.assertEqual((one.place, other.place), (("1",), ("2",)))

    def test_a_raised_refusal_is_taken_with_its_field(self):
        for refusal, field in [(NoPlace, "place"), (NoFit, "why"), (NoAct, "name")]:
            for taken in [refusal, MendError, ValueError]:
                with self.subTest(refusal=refusal.__name__, taken=taken.__name__):
                    with self.assertRaises(taken) as caught:
                        raise refusal("x")
                    self.assertEqual(getattr(caught.exception, field), "x")


if __name__ == "__main__":
    unittest.main()
