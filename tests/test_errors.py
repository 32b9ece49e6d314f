import unittest

from amongalike.errors import NoText, TableError


class Errors(unittest.TestCase):
    def test_any_refusal_is_a_value_error(self):
        self.assertEqual(TableError.__bases__, (ValueError,))

    def test_no_text_is_a_refusal(self):
        self.assertTrue(issubclass(NoText, TableError))
        self.assertIsNot(NoText, TableError)

    def test_they_are_raised_with_words_and_without(self):
        for error in (TableError("words"), TableError(), NoText("words"), NoText()):
            with self.assertRaises(TableError):
                raise error
            with self.assertRaises(ValueError):
                raise error

    def test_a_refusal_is_not_always_no_text(self):
        self.assertNotIsInstance(TableError(), NoText)


if __name__ == "__main__":
    unittest.main()
