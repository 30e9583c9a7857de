"""[4]: signs, words and names."""

import sys
import unittest

from namesone.tables import is_name, is_sign, is_word
from tests.values import SIGNS, no_strings

NO_SIGNS = [" ", "=", "/", "*", "\"", "`", ",", ";", "+", "!", "\n", "\t", "\0", "\x7f", "\u00e9", "\u00df",
            "\u0131", "\u0660", "\u00b2", "\uff41", "\u0301", "\u2019", "\U0001f600", "\ud800"]


class SignsTest(unittest.TestCase):
    def test_just_the_sixty_nine_signs(self):
        found = [chr(code) for code in range(sys.maxunicode + 1) if is_sign(chr(code))]
        self.assertEqual(found, sorted(SIGNS))
        self.assertEqual(len(found), 69)

    def test_signs_answer_with_truth_values(self):
        for ask in (is_sign, is_word, is_name):
            self.assertIs(ask("a"), True)
            self.assertIs(ask("~"), True)
            self.assertIs(ask(""), False)
            self.assertIs(ask("="), False)
            self.assertIs(ask(None), False)

    def test_strings_that_are_no_sign(self):
        for thing in ["", "ab", "aa", "yzAB", "'-", SIGNS, "a ", " a", *NO_SIGNS]:
            self.assertFalse(is_sign(thing), ascii(thing))

    def test_what_is_no_string(self):
        for thing in no_strings():
            self.assertFalse(is_sign(thing), thing)
            self.assertFalse(is_word(thing), thing)
            self.assertFalse(is_name(thing), thing)


class WordsTest(unittest.TestCase):
    def test_lengths_of_words(self):
        lengths = [size for size in range(100) if is_word("a" * size)]
        self.assertEqual(lengths, list(range(1, 41)))
        self.assertFalse(is_word("a" * 4000))

    def test_lengths_of_names(self):
        lengths = [size for size in range(100) if is_name("a" * size)]
        self.assertEqual(lengths, list(range(1, 13)))
        self.assertFalse(is_name("a" * 4000))

    def test_every_sign_may_stand_anywhere(self):
        for sign in SIGNS:
            for thing in (sign, sign + "ab", "a" + sign + "b", "ab" + sign, sign * 12):
                self.assertTrue(is_word(thing), thing)
                self.assertTrue(is_name(thing), thing)
            self.assertTrue(is_word(sign * 40), sign)

    def test_no_other_character_may_stand_anywhere(self):
        for wrong in NO_SIGNS:
            for thing in (wrong, wrong + "ab", "a" + wrong + "b", "ab" + wrong, "a" * 11 + wrong):
                self.assertFalse(is_word(thing), ascii(thing))
                self.assertFalse(is_name(thing), ascii(thing))
            self.assertFalse(is_word("a" * 39 + wrong))

    def test_there_are_no_special_names(self):
        for thing in (".", "..", "...", "-", "~", "_", "con", "NUL", "a.", "0"):
            self.assertTrue(is_name(thing), thing)


if __name__ == "__main__":
    unittest.main()
