"""Letters, words, their order and their numbers (points 2, 3, 5, 6 and 7)."""

import inspect
import unittest

from helper import NO_LETTERS, words_up_to
from roomalgebra.errors import NoLetters, NoNumber, NoWord
from roomalgebra.machines import made
from roomalgebra.words import earlier, next_word, number_of, word_of

LETTERS = ["a", "z", "ab", "ba", "zm", "abc", "cab", "bca", "cba"]
SIGNS = [chr(code) for code in range(ord(" "), ord("~") + 1)]


def last_number_of_length(letters, length):
    return sum(len(letters) ** shorter for shorter in range(length + 1)) - 1


class Letters(unittest.TestCase):
    def test_texts_that_are_letters(self):
        for letters in LETTERS:
            self.assertEqual(next_word(letters, ""), letters[0])

    def test_just_the_signs_from_a_to_z_are_letters(self):
        for sign in SIGNS:
            if sign in "abcdefghijklmnopqrstuvwxyz":
                self.assertEqual(word_of(sign, 2), sign * 2)
            else:
                self.assertRaises(NoLetters, word_of, sign, 2)
                self.assertRaises(NoLetters, word_of, "a" + sign, 2)
                self.assertRaises(NoLetters, word_of, sign + "ab", 2)

    def test_no_letters(self):
        for text in NO_LETTERS:
            self.assertRaises(NoLetters, earlier, text, "", "")
            self.assertRaises(NoLetters, number_of, text, "")
            self.assertRaises(NoLetters, word_of, text, 0)
            self.assertRaises(NoLetters, next_word, text, "")
            self.assertRaises(NoLetters, made, text, [[0] * len(text)], [True])

    def test_no_letters_comes_ahead_of_every_other_refusal(self):
        for text in NO_LETTERS:
            self.assertRaises(NoLetters, earlier, text, "?", "?")
            self.assertRaises(NoLetters, earlier, text, "", "?")
            self.assertRaises(NoLetters, number_of, text, "?")
            self.assertRaises(NoLetters, word_of, text, -1)
            self.assertRaises(NoLetters, word_of, text, 10 ** 99)
            self.assertRaises(NoLetters, next_word, text, "?")
            self.assertRaises(NoLetters, made, text, [], [])
            self.assertRaises(NoLetters, made, text, [[7]], [])


class Words(unittest.TestCase):
    def test_just_texts_of_letters_are_words(self):
        for sign in SIGNS:
            if sign not in "ba":
                for word in [sign, "ab" + sign, sign + "ab", "a" + sign + "b"]:
                    self.assertRaises(NoWord, earlier, "ba", word, "a")
                    self.assertRaises(NoWord, earlier, "ba", "a", word)
                    self.assertRaises(NoWord, earlier, "ba", word, word)
                    self.assertRaises(NoWord, number_of, "ba", word)
                    self.assertRaises(NoWord, next_word, "ba", word)

    def test_a_bad_sign_behind_the_place_that_settles_the_order_is_refused(self):
        self.assertRaises(NoWord, earlier, "ab", "a", "bc")
        self.assertRaises(NoWord, earlier, "ab", "ac", "bb")
        self.assertRaises(NoWord, earlier, "ab", "", "a" * 999 + "c")


class Earlier(unittest.TestCase):
    def test_every_two_short_words(self):
        for letters in LETTERS:
            row = list(words_up_to(letters, 6 if len(letters) == 1 else 4))
            for place, one in enumerate(row):
                for other_place, two in enumerate(row):
                    self.assertIs(earlier(letters, one, two), place < other_place, (letters, one, two))

    def test_the_shorter_word_comes_first_whatever_its_signs(self):
        self.assertIs(earlier("ab", "bbb", "aaaa"), True)
        self.assertIs(earlier("ab", "aaaa", "bbb"), False)
        self.assertIs(earlier("ba", "", "b"), True)

    def test_the_order_is_that_of_the_letters_and_not_of_the_alphabet(self):
        self.assertIs(earlier("ba", "b", "a"), True)
        self.assertIs(earlier("ba", "a", "b"), False)
        self.assertIs(earlier("cab", "ac", "aa"), True)
        self.assertIs(earlier("cab", "bc", "ab"), False)

    def test_the_first_place_at_which_they_differ_settles_it(self):
        for place in [0, 1, 499, 998, 999]:
            one = "c" * place + "a" + "b" * (999 - place)
            two = "c" * place + "b" + "c" * (999 - place)
            self.assertIs(earlier("cab", one, two), True, place)
            self.assertIs(earlier("cab", two, one), False, place)
            self.assertIs(earlier("abc", one, two), True, place)
            self.assertIs(earlier("cba", one, two), False, place)

    def test_a_word_does_not_come_before_itself(self):
        for word in ["", "a", "ab" * 500]:
            self.assertIs(earlier("ab", word, word), False)

    def test_long_words_of_unlike_lengths(self):
        self.assertIs(earlier("ab", "b" * 999, "a" * 1000), True)
        self.assertIs(earlier("a", "a" * 1000, "a" * 999), False)


class Numbers(unittest.TestCase):
    def test_short_words_there_and_back(self):
        for letters in LETTERS:
            row = list(words_up_to(letters, 30 if len(letters) == 1 else 5))
            for number, word in enumerate(row):
                self.assertEqual(number_of(letters, word), number)
                self.assertEqual(word_of(letters, number), word)
            for word, behind in zip(row, row[1:]):
                self.assertEqual(next_word(letters, word), behind)

    def test_the_empty_word_and_0(self):
        for letters in LETTERS:
            self.assertEqual(number_of(letters, ""), 0)
            self.assertEqual(word_of(letters, 0), "")
            self.assertEqual(next_word(letters, ""), letters[0])

    def test_the_first_and_the_last_word_of_a_length(self):
        for letters in LETTERS:
            for length in [1, 2, 17, 199, 200]:
                first = letters[0] * length
                last = letters[-1] * length
                self.assertEqual(number_of(letters, first), last_number_of_length(letters, length - 1) + 1)
                self.assertEqual(number_of(letters, last), last_number_of_length(letters, length))
                self.assertEqual(word_of(letters, number_of(letters, first)), first)
                self.assertEqual(word_of(letters, number_of(letters, last)), last)
                self.assertEqual(next_word(letters, last), letters[0] * (length + 1))

    def test_the_last_number_whose_word_has_two_hundred_signs(self):
        for letters in LETTERS:
            number = last_number_of_length(letters, 200)
            self.assertEqual(word_of(letters, number), letters[-1] * 200)
            self.assertRaises(NoNumber, word_of, letters, number + 1)
            self.assertRaises(NoNumber, word_of, letters, number + 2)

    def test_one_letter_alone(self):
        self.assertEqual(number_of("q", "q" * 1000), 1000)
        self.assertEqual(word_of("q", 200), "q" * 200)
        self.assertRaises(NoNumber, word_of, "q", 201)
        self.assertRaises(NoNumber, word_of, "q", 10 ** 100 - 1)

    def test_other_numbers_are_refused(self):
        for letters in LETTERS:
            for number in [-1, -2, -(10 ** 100 - 1), 10 ** 100 - 1]:
                self.assertRaises(NoNumber, word_of, letters, number)

    def test_great_numbers_there_and_back(self):
        for letters in ["ab", "ba"]:
            for number in [10 ** 60 // 7, 2 ** 200 - 1, 2 ** 200]:
                self.assertEqual(number_of(letters, word_of(letters, number)), number)
        for letters in ["abc", "cab"]:
            for number in [10 ** 94 // 7, 3 ** 200 - 1, 3 ** 200]:
                self.assertEqual(number_of(letters, word_of(letters, number)), number)

    def test_words_of_more_than_two_hundred_signs(self):
        for letters in LETTERS:
            for length in [201, 1000]:
                last = letters[-1] * length
                self.assertEqual(number_of(letters, last), last_number_of_length(letters, length))
                self.assertEqual(next_word(letters, last), letters[0] * (length + 1))
        self.assertEqual(next_word("ba", "b" * 300), "b" * 299 + "a")
        self.assertEqual(next_word("ba", "b" * 150 + "a" * 150), "b" * 149 + "a" + "b" * 150)
        self.assertEqual(next_word("abc", "ca" * 250 + "b" + "c" * 499), "ca" * 250 + "c" + "a" * 499)

    def test_the_next_word_of_a_long_word_has_the_next_number(self):
        for word in ["abc" * 100, "cab" * 333, "c" * 400 + "b" + "c" * 400, "b" * 201]:
            for letters in ["abc", "bca"]:
                behind = next_word(letters, word)
                self.assertEqual(number_of(letters, behind), number_of(letters, word) + 1)
                self.assertIs(earlier(letters, word, behind), True)


class Interface(unittest.TestCase):
    def test_arguments_bear_their_names(self):
        self.assertEqual(list(inspect.signature(earlier).parameters), ["letters", "one", "two"])
        self.assertEqual(list(inspect.signature(number_of).parameters), ["letters", "word"])
        self.assertEqual(list(inspect.signature(word_of).parameters), ["letters", "number"])
        self.assertEqual(list(inspect.signature(next_word).parameters), ["letters", "word"])

    def test_kinds(self):
        for word in ["", "a", "b" * 300]:
            self.assertIs(type(number_of("ab", word)), int)
            self.assertIs(type(next_word("ab", word)), str)
        self.assertIs(type(word_of("ab", 0)), str)
        self.assertIs(type(word_of("ab", 5)), str)

    def test_a_truth_is_no_whole_number(self):
        self.assertRaises(NoNumber, word_of, "ab", True)
        self.assertRaises(NoNumber, word_of, "ab", False)

    def test_the_same_asked_again_is_told_again(self):
        for number in [0, 1, 77, 10 ** 40]:
            self.assertEqual(word_of("cab", number), word_of("cab", number))


if __name__ == "__main__":
    unittest.main()
