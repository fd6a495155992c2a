import unittest

from askmark.errors import AskError, BadName, BadPiece, TooTall

REFUSALS = [BadPiece, BadName, TooTall]


class ErrorsTest(unittest.TestCase):
    def test_any_refusal_is_a_value_error(self):
        self.assertEqual(AskError.__bases__, (ValueError,))

    def test_each_refusal_is_right_under_ask_error(self):
        for refusal in REFUSALS:
            with self.subTest(refusal=refusal):
                self.assertEqual(refusal.__bases__, (AskError,))

    def test_no_refusal_is_under_another_one(self):
        for refusal in REFUSALS:
            for other in REFUSALS:
                with self.subTest(refusal=refusal, other=other):
                    self.assertEqual(issubclass(refusal, other), refusal is other)

    def test_names_and_place(self):
        for cls, name in zip([AskError, *REFUSALS], ["AskError", "BadPiece", "BadName", "TooTall"]):
            with self.subTest(name=name):
                self.assertEqual((cls.__name__, cls.__module__), (name, "askmark.errors"))

    def test_each_can_be_raised_with_words_and_caught_as_any_refusal(self):
        for refusal in REFUSALS:
            with self.subTest(refusal=refusal):
                with self.assertRaises(AskError) as caught:
                    raise refusal("why")
                self.assertEqual(str(caught.exception), "why")


if __name__ == "__main__":
    unittest.main()
