"""Point 5: the errors, their bases and their fields."""

import unittest

from onwardlines import errors

MADE_WITH_A_STRING = ("InvalidLine", "InvalidRoute", "InvalidWishes", "InvalidFixed",
                      "InvalidNumber", "InvalidIndex", "NotFitting", "NothingToUndo")
ALL = MADE_WITH_A_STRING + ("NotPossible", "InvalidText")


class ErrorClasses(unittest.TestCase):
    def test_the_base_is_a_value_error(self):
        self.assertEqual(errors.HeadwayError.__bases__, (ValueError,))

    def test_all_ten_are_direct_subclasses(self):
        for name in ALL:
            with self.subTest(name=name):
                self.assertEqual(getattr(errors, name).__bases__, (errors.HeadwayError,))

    def test_each_is_defined_in_this_file_under_its_name(self):
        for name in ALL + ("HeadwayError",):
            with self.subTest(name=name):
                self.assertEqual(getattr(errors, name).__module__, "onwardlines.errors")
                self.assertEqual(getattr(errors, name).__name__, name)

    def test_eight_are_made_with_one_string(self):
        for name in MADE_WITH_A_STRING:
            with self.subTest(name=name):
                made = getattr(errors, name)("what is wrong")
                self.assertEqual(str(made), "what is wrong")
                with self.assertRaises(errors.HeadwayError):
                    raise made

    def test_none_is_caught_as_another_one(self):
        for one in ALL:
            for other in ALL:
                if one != other:
                    made = getattr(errors, one)("text")
                    self.assertNotIsInstance(made, getattr(errors, other))


class Fields(unittest.TestCase):
    def test_not_possible_keeps_its_ring(self):
        for ring in ([(0, True), (3, False)], (0, 2, [(1, True)]), None):
            with self.subTest(ring=ring):
                self.assertEqual(errors.NotPossible(ring).ring, ring)
                self.assertEqual(errors.NotPossible(ring=ring).ring, ring)

    def test_invalid_text_keeps_its_word(self):
        for word in (0, 1, 117):
            with self.subTest(word=word):
                self.assertEqual(errors.InvalidText(word).word, word)
                self.assertEqual(errors.InvalidText(word=word).word, word)

    def test_both_can_be_raised_and_caught_by_name(self):
        with self.assertRaises(errors.NotPossible) as caught:
            raise errors.NotPossible([(2, True)])
        self.assertEqual(caught.exception.ring, [(2, True)])
        with self.assertRaises(errors.InvalidText) as caught:
            raise errors.InvalidText(4)
        self.assertEqual(caught.exception.word, 4)


if __name__ == "__main__":
    unittest.main()
