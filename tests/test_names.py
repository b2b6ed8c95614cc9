import copy
import unittest

from coilkind.names import is_name
from samples import no_texts, other_signs

WORDS = ("all", "none", "way", "box", "pick")


class Names(unittest.TestCase):
    def test_one_to_eight_letters(self):
        letters = "abcdefghijklmnopqrstuvwxyz"
        for letter in letters:
            self.assertIs(is_name(letter), True)
            self.assertIs(is_name(letter * 8), True)
        for many in range(1, 9):
            self.assertIs(is_name(letters[:many]), True)
            self.assertIs(is_name(letters[-many:]), True)

    def test_too_short_and_too_long(self):
        for text in ("", "abcdefghi", "aaaaaaaaa", "z" * 26, "z" * 5000):
            self.assertIs(is_name(text), False)

    def test_other_signs(self):
        for sign in other_signs():
            for text in (sign, sign + "ab", "a" + sign + "b", "ab" + sign, "abcdefg" + sign, sign + "abcdefg"):
                self.assertIs(is_name(text), False, text)

    def test_words_that_are_no_names(self):
        for word in WORDS:
            self.assertIs(is_name(word), False)

    def test_names_like_these_words(self):
        for word in WORDS:
            for text in (word + "a", "a" + word, word + "s", word * 2, word[:-1], word[1:]):
                self.assertIs(is_name(text), True, text)

    def test_other_words_of_the_document_are_names(self):
        for word in ("as", "hole", "from", "to", "part", "case", "get", "fn"):
            self.assertIs(is_name(word), True)

    def test_what_is_no_text(self):
        for thing in no_texts():
            self.assertIs(is_name(thing), False)

    def test_nothing_is_changed(self):
        things = no_texts()
        before = copy.deepcopy(things)
        for thing in things:
            is_name(thing)
        is_name(things)
        self.assertEqual(things, before)
