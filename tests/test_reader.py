"""How texts are read as patterns, and where they are refused (points 2, 3, 5, 18 and 19)."""

import inspect
import itertools
import random
import unittest

from helper import NO_LETTERS, classes_of, parts_of, pattern_from, refusal_of, shape_read, some_shape
from roomalgebra.patterns import Pattern
from roomalgebra.reader import read

A = ("sign", "a")
B = ("sign", "b")
C = ("sign", "c")
SIGNS = [chr(code) for code in range(ord(" "), ord("~") + 1)]


def is_beginning(letters, text):
    """Whether some pattern's text begins so: one piece and closed brackets are all that a beginning can want."""
    ends = [want + ")" * shut for want in ["", "a"] for shut in range(text.count("(") + 1)]
    return any(shape_read(letters, text + end) for end in ends)


def longest_beginning(letters, text):
    return max(length for length in range(len(text) + 1) if is_beginning(letters, text[:length]))


class Reading(unittest.TestCase):
    def read_as(self, text, shape):
        pattern = read("abc", text)
        self.assertIsInstance(pattern, Pattern)
        self.assertEqual(pattern.shape(), shape, text)


class Pieces(Reading):
    def test_each_piece(self):
        self.read_as("0", ("never",))
        self.read_as("1", ("empty",))
        self.read_as(".", ("any",))
        for letter in "abc":
            self.read_as(letter, ("sign", letter))
        self.read_as("(a)", A)
        self.read_as("(((a)))", A)
        self.read_as("(a|b)", ("either", A, B))

    def test_each_letter_from_a_to_z(self):
        for letter in "abcdefghijklmnopqrstuvwxyz":
            self.assertEqual(read(letter, letter).shape(), ("sign", letter))

    def test_the_order_of_the_letters_does_not_matter(self):
        for letters in map("".join, itertools.permutations("abc")):
            self.assertEqual(read(letters, "a|bc").shape(), ("either", A, ("then", B, C)))

    def test_each_sign_between_behind_and_ahead(self):
        self.read_as("a|b", ("either", A, B))
        self.read_as("a-b", ("less", A, B))
        self.read_as("a&b", ("both", A, B))
        self.read_as("ab", ("then", A, B))
        self.read_as("a*", ("again", A))
        self.read_as("!a", ("outside", A))
        self.read_as("<a", ("turned", A))


class Binding(Reading):
    def test_as_the_document_tells(self):
        self.read_as("!a*", ("outside", ("again", A)))
        self.read_as("!<a", ("outside", ("turned", A)))
        self.read_as("!ab", ("then", ("outside", A), B))
        self.read_as("a|b-c", ("less", ("either", A, B), C))
        self.read_as("abc", ("then", ("then", A, B), C))

    def test_left_is_taken_together_first(self):
        self.read_as("a|b|c", ("either", ("either", A, B), C))
        self.read_as("a-b-c", ("less", ("less", A, B), C))
        self.read_as("a-b|c", ("either", ("less", A, B), C))
        self.read_as("a&b&c", ("both", ("both", A, B), C))
        self.read_as("a-b|c-a", ("less", ("either", ("less", A, B), C), A))

    def test_each_two_signs_between(self):
        kinds = {"|": ("either", 1), "-": ("less", 1), "&": ("both", 2), "": ("then", 3)}
        for one, two in itertools.product(kinds, repeat=2):
            if kinds[one][1] >= kinds[two][1]:
                shape = (kinds[two][0], (kinds[one][0], A, B), C)
            else:
                shape = (kinds[one][0], A, (kinds[two][0], B, C))
            self.read_as("a" + one + "b" + two + "c", shape)

    def test_signs_ahead_bind_more_strongly_than_those_between(self):
        for sign, kind in [("|", "either"), ("-", "less"), ("&", "both"), ("", "then")]:
            for ahead, name in [("!", "outside"), ("<", "turned")]:
                self.read_as(ahead + "a" + sign + "b", (kind, (name, A), B))
                self.read_as("a" + sign + ahead + "b", (kind, A, (name, B)))
                self.read_as("a" + sign + ahead + "b" + sign + "c", (kind, (kind, A, (name, B)), C))

    def test_the_star_binds_strongest(self):
        for sign, kind in [("|", "either"), ("-", "less"), ("&", "both"), ("", "then")]:
            self.read_as("a" + sign + "b*", (kind, A, ("again", B)))
            self.read_as("a*" + sign + "b", (kind, ("again", A), B))
        self.read_as("<a*", ("turned", ("again", A)))
        self.read_as("(<a)*", ("again", ("turned", A)))
        self.read_as("!(ab)*", ("outside", ("again", ("then", A, B))))
        self.read_as("!<a*b", ("then", ("outside", ("turned", ("again", A))), B))

    def test_several_stars_and_several_signs_ahead(self):
        self.read_as("a**", ("again", ("again", A)))
        self.read_as("(a*)***", ("again", ("again", ("again", ("again", A)))))
        self.read_as("!!a", ("outside", ("outside", A)))
        self.read_as("<!<a**", ("turned", ("outside", ("turned", ("again", ("again", A))))))
        self.read_as("a!!<b", ("then", A, ("outside", ("outside", ("turned", B)))))

    def test_brackets(self):
        self.read_as("a|(b-c)", ("either", A, ("less", B, C)))
        self.read_as("a(bc)", ("then", A, ("then", B, C)))
        self.read_as("(a|b)&c", ("both", ("either", A, B), C))
        self.read_as("(a&b)c", ("then", ("both", A, B), C))
        self.read_as("!(ab)", ("outside", ("then", A, B)))
        self.read_as("(a)(b)", ("then", A, B))
        self.read_as("a(b)c", ("then", ("then", A, B), C))
        self.read_as("(a|b)*c", ("then", ("again", ("either", A, B)), C))


class AllShortTexts(unittest.TestCase):
    def as_the_rules_tell(self, letters, text):
        shape = shape_read(letters, text)
        refusal = refusal_of(lambda: read(letters, text))
        if shape is not None:
            self.assertIs(refusal, None, text)
            self.assertEqual(read(letters, text).shape(), shape, text)
        else:
            self.assertEqual(classes_of(refusal), ["NoPattern"], text)
            self.assertEqual(refusal.at, longest_beginning(letters, text), text)
            self.assertIs(type(refusal.at), int)

    def test_all_signs(self):
        for length in range(5):
            for text in map("".join, itertools.product("a.|-&!<*()c", repeat=length)):
                self.as_the_rules_tell("ab", text)

    def test_fewer_signs(self):
        for text in map("".join, itertools.product("a|&!*()", repeat=5)):
            self.as_the_rules_tell("ab", text)

    def test_every_sign_from_the_blank_on(self):
        for sign in SIGNS:
            for text in [sign, "a" + sign, sign + "a", "(a" + sign, "(" + sign, "a|" + sign, "a" + sign + "b"]:
                self.as_the_rules_tell("ab", text)


class LongTexts(Reading):
    def test_sixty_signs(self):
        shape = A
        for number in range(59):
            shape = ("then", shape, A)
        self.read_as("a" * 60, shape)
        self.assertEqual(read("abc", "!" * 59 + "a").shape()[0], "outside")
        self.assertEqual(len(parts_of(read("abc", "!<" * 29 + "!a").shape())), 60)
        self.assertEqual(len(parts_of(read("abc", "a" + "*" * 59).shape())), 60)
        self.assertEqual(len(parts_of(read("abc", "a|b-c&" * 9 + "aabbcc").shape())), 27 + 6 + 32)

    def test_deep_brackets(self):
        self.read_as("(" * 29 + "ab" + ")" * 29, ("then", A, B))
        shape = A
        for number in range(19):
            shape = ("then", B, shape)
        self.read_as("b(" * 19 + "a" + ")" * 19, shape)

    def test_some_texts(self):
        chance = random.Random(61)
        for number in range(300):
            shape = some_shape(chance, "abc", 5 + number // 15)
            text = pattern_from(shape).text()
            self.assertEqual(shape_read("abc", text), shape)
            self.read_as(text, shape)

    def test_long_texts_that_are_refused(self):
        for text, at in [("(" * 60, 60), ("(" * 30 + "a" + ")" * 29, 60), ("(" * 29 + "a" + ")" * 30, 59),
                         ("a" * 59 + "|", 60), ("a" * 59 + "d", 59), ("!" * 60, 60), ("(" * 59 + ")", 59),
                         ("a" * 58 + "|&", 59), ("(a)" * 19 + "a))", 58)]:
            self.assertEqual(refusal_of(lambda: read("abc", text)).at, at, text)


class Refusals(unittest.TestCase):
    def refused_at(self, letters, text, at):
        refusal = refusal_of(lambda: read(letters, text))
        self.assertEqual(classes_of(refusal), ["NoPattern"], text)
        self.assertEqual(refusal.at, at, text)

    def test_the_empty_text(self):
        self.refused_at("ab", "", 0)

    def test_a_text_that_ends_too_early(self):
        for text in ["(", "a|", "a-", "a&", "!", "<", "(a", "(a|b", "((a)", "a|(", "ab!", "a*<", "(a)(", "(a*"]:
            self.refused_at("ab", text, len(text))

    def test_a_sign_that_cannot_stand_there(self):
        for text, at in [(")", 0), ("*", 0), ("|a", 0), ("-a", 0), ("&", 0), ("()", 1), ("a)", 1), ("(a))", 3),
                         ("a||b", 2), ("a|*", 2), ("!*", 1), ("!|a", 1), ("(|a)", 1), ("(*", 1), ("a|)", 2),
                         ("(a|)", 3), ("a&-b", 2), ("<)", 1), ("a*b)*", 3)]:
            self.refused_at("ab", text, at)

    def test_a_letter_that_is_none_of_the_letters(self):
        for letters, text, at in [("ab", "c", 0), ("ab", "abc", 2), ("a", "b", 0), ("ba", "a|(c", 3), ("z", "a*", 0)]:
            self.refused_at(letters, text, at)

    def test_blanks_and_other_signs(self):
        for text, at in [(" ", 0), ("a ", 1), (" a", 0), ("a |b", 1), ("a| b", 2), ("2", 0), ("a2", 1), ("A", 0),
                         ("a+", 1), ("a?", 1), ("[a]", 0), ("a,b", 1), ("~a", 0), ("a>", 1), ("a\\b", 1)]:
            self.refused_at("ab", text, at)

    def test_no_letters_ahead_of_no_pattern(self):
        for letters in NO_LETTERS:
            for text in ["a", "", "(", "a)", " "]:
                refusal = refusal_of(lambda: read(letters, text))
                self.assertEqual(classes_of(refusal), ["NoLetters"], (letters, text))


class Interface(unittest.TestCase):
    def test_arguments_bear_their_names(self):
        self.assertEqual(list(inspect.signature(read).parameters), ["letters", "text"])

    def test_the_same_read_again_is_told_again(self):
        one = read("ab", "(a|b)*-!a")
        two = read("ab", "(a|b)*-!a")
        self.assertIsNot(one, two)
        self.assertEqual(one.shape(), two.shape())
        self.assertEqual(one.text(), two.text())
        self.assertEqual(one.machine("ab"), two.machine("ab"))


if __name__ == "__main__":
    unittest.main()
