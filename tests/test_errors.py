import unittest

from handpromise import errors

REFUSALS = [
    "NoBoxes", "NoCond", "NoHand", "NoHouse", "NoStart", "NoStep",
    "NoPaper", "NoProgram", "NoText", "NoName", "NoRow", "TooMany",
]


class TestErrors(unittest.TestCase):
    def test_any_refusal_is_a_value_error(self):
        self.assertEqual(errors.PromiseError.__bases__, (ValueError,))

    def test_each_refusal_stands_straight_under_promise_error(self):
        for name in REFUSALS:
            with self.subTest(name=name):
                self.assertEqual(getattr(errors, name).__bases__, (errors.PromiseError,))

    def test_no_two_refusals_are_one(self):
        self.assertEqual(len({getattr(errors, name) for name in REFUSALS}), 12)

    def test_each_refusal_can_be_raised_with_words(self):
        for name in REFUSALS:
            if name == "NoStep":
                continue
            with self.subTest(name=name), self.assertRaises(errors.PromiseError) as caught:
                raise getattr(errors, name)("some words")
            self.assertEqual(str(caught.exception), "some words")

    def test_no_step_has_its_place(self):
        for place in (0, 1, 59, 10 ** 59):
            with self.subTest(place=place), self.assertRaises(errors.NoStep) as caught:
                raise errors.NoStep(place)
            self.assertEqual(caught.exception.place, place)

    def test_places_of_two_refusals_are_their_own(self):
        one = errors.NoStep(3)
        other = errors.NoStep(4)
        self.assertEqual((one.place, other.place), (3, 4))

    def test_no_step_wants_a_place(self):
        with self.assertRaises(TypeError):
            errors.NoStep()


if __name__ == "__main__":
    unittest.main()
