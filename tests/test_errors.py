"""Point 4: the refusals and how they stand to each other."""

import unittest

from scopestore import errors

NAMES = (
    "NoFraction", "NoRow", "NoName", "Stands", "Full", "NoLevel", "NoMark", "NothingDone",
    "NoPoint", "NoStep", "NoNumber", "NoNames", "NoText", "NoLine", "NoWord",
)
REFUSALS = tuple(getattr(errors, name) for name in NAMES)


def caught_as(raised, caught):
    """Tell whether an error of the one class is caught by a handler of the other."""
    try:
        raise raised("a text")
    except caught:
        return True
    except Exception:
        return False


class Errors(unittest.TestCase):
    def test_there_are_fifteen_unlike_classes(self):
        self.assertEqual(len(REFUSALS), 15)
        self.assertEqual(len(set(REFUSALS)), 15)
        self.assertNotIn(errors.StoreError, REFUSALS)

    def test_each_is_caught_as_itself_as_store_error_and_as_value_error(self):
        for refusal in REFUSALS:
            for caught in (refusal, errors.StoreError, ValueError):
                with self.subTest(refusal=refusal, caught=caught):
                    self.assertTrue(caught_as(refusal, caught))

    def test_each_is_caught_as_none_of_the_others(self):
        for refusal in REFUSALS:
            for other in REFUSALS:
                if other is not refusal:
                    with self.subTest(refusal=refusal, other=other):
                        self.assertFalse(caught_as(refusal, other))

    def test_each_stands_straight_under_store_error(self):
        for refusal in REFUSALS:
            self.assertEqual(refusal.__bases__, (errors.StoreError,))

    def test_store_error_stands_straight_under_value_error(self):
        self.assertEqual(errors.StoreError.__bases__, (ValueError,))

    def test_store_error_is_made_with_a_text_and_caught_as_no_refusal(self):
        self.assertTrue(caught_as(errors.StoreError, ValueError))
        self.assertFalse(any(caught_as(errors.StoreError, refusal) for refusal in REFUSALS))

    def test_a_plain_value_error_is_no_refusal(self):
        self.assertFalse(caught_as(ValueError, errors.StoreError))


if __name__ == "__main__":
    unittest.main()
