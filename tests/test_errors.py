import unittest

from cogtrain import errors
from cogtrain.errors import Full, Jams, NoJoin, NoName, NoTeeth, NoText, NoWheel, TrainError, Twice

REFUSALS = {
    "NoName": NoName,
    "Twice": Twice,
    "NoTeeth": NoTeeth,
    "Full": Full,
    "NoWheel": NoWheel,
    "NoJoin": NoJoin,
    "NoText": NoText,
    "Jams": Jams,
}


class Classes(unittest.TestCase):
    def test_each_stands_under_its_own_name(self):
        for name, refusal in {**REFUSALS, "TrainError": TrainError}.items():
            with self.subTest(name=name):
                self.assertIs(getattr(errors, name), refusal)
                self.assertEqual(refusal.__name__, name)

    def test_train_error_is_a_value_error(self):
        self.assertTrue(issubclass(TrainError, ValueError))

    def test_each_refusal_is_a_train_error(self):
        for name, refusal in REFUSALS.items():
            with self.subTest(name=name):
                self.assertTrue(issubclass(refusal, TrainError))
                self.assertIsNot(refusal, TrainError)

    def test_no_refusal_stands_under_another_one(self):
        for name, refusal in REFUSALS.items():
            for other_name, other in REFUSALS.items():
                if name != other_name:
                    with self.subTest(name=name, other=other_name):
                        self.assertFalse(issubclass(refusal, other))


class Raised(unittest.TestCase):
    def test_each_is_taken_by_its_name(self):
        for name, refusal in {**REFUSALS, "TrainError": TrainError}.items():
            with self.subTest(name=name):
                with self.assertRaises(refusal) as taken:
                    raise refusal("some words")
                self.assertIs(type(taken.exception), refusal)
                self.assertEqual(str(taken.exception), "some words")

    def test_each_is_taken_as_any_refusal_and_as_a_value_error(self):
        for name, refusal in REFUSALS.items():
            for above in (TrainError, ValueError):
                with self.subTest(name=name, above=above.__name__):
                    with self.assertRaises(above):
                        raise refusal("some words")

    def test_none_is_taken_by_the_name_of_another_one(self):
        for name, refusal in REFUSALS.items():
            others = tuple(other for other in REFUSALS.values() if other is not refusal)
            with self.subTest(name=name):
                try:
                    raise refusal("some words")
                except others:
                    self.fail("taken by the name of another refusal")
                except refusal:
                    pass

    def test_a_plain_value_error_is_no_refusal(self):
        self.assertNotIsInstance(ValueError("some words"), TrainError)


if __name__ == "__main__":
    unittest.main()
