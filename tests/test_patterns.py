"""Patterns: shapes, texts and machines (points 2, 3, 4, 16, 17, 20 and 21)."""

import inspect
import itertools
import random
import unittest

from helper import (ALONE, NO_LETTERS, PAIRS, classes_of, in_shape, parts_of, pattern_from, plain_fault, refusal_of,
                    shape_read, some_shape, too_many_fault, words_up_to)
from roomalgebra import patterns
from roomalgebra.least import apart
from roomalgebra.machines import takes
from roomalgebra.patterns import (Again, AnySign, Both, Either, Empty, Less, Never, Outside, Pattern, Sign, Then,
                                  Turned)
from roomalgebra.reader import read

A = ("sign", "a")
B = ("sign", "b")
LONGEST = {1: 8, 2: 6, 3: 4}


def each_kind(inner):
    """A pattern of each kind, each about the same one."""
    shapes = [A, ("any",), ("never",), ("empty",)]
    shapes.extend((kind, inner) for kind in sorted(ALONE))
    shapes.extend((kind, inner, B) for kind in sorted(PAIRS))
    return shapes


def nested(kinds, left, deep):
    """Kinds in turn, one within the other; in a pair the inner one stands to the left or to the right."""
    shape = A
    for number in range(deep):
        kind = kinds[number % len(kinds)]
        if kind in ALONE:
            shape = (kind, shape)
        else:
            shape = (kind, shape, B) if left[number % len(left)] else (kind, B, shape)
    return shape


def without_each_bracket(text):
    opened = []
    for at, sign in enumerate(text):
        if sign == "(":
            opened.append(at)
        if sign == ")":
            begin = opened.pop()
            yield text[:begin] + text[begin + 1:at] + text[at + 1:]


def viable_texts(letters, signs, longest):
    """Every text of these signs that the rules read as a pattern."""
    for length in range(1, longest + 1):
        for text in map("".join, itertools.product(signs, repeat=length)):
            if text.count("(") == text.count(")") and shape_read(letters, text):
                yield text


class Shapes(unittest.TestCase):
    def test_each_of_the_eleven(self):
        x = Sign("x")
        y = AnySign()
        for pattern, shape in [
            (Never(), ("never",)), (Empty(), ("empty",)), (Sign("q"), ("sign", "q")), (AnySign(), ("any",)),
            (Either(x, y), ("either", ("sign", "x"), ("any",))), (Less(x, y), ("less", ("sign", "x"), ("any",))),
            (Both(x, y), ("both", ("sign", "x"), ("any",))), (Then(x, y), ("then", ("sign", "x"), ("any",))),
            (Outside(x), ("outside", ("sign", "x"))), (Turned(x), ("turned", ("sign", "x"))),
            (Again(x), ("again", ("sign", "x"))),
        ]:
            self.assertEqual(pattern.shape(), shape)
            self.assertIs(type(pattern.shape()), tuple)
            self.assertIsInstance(pattern, Pattern)

    def test_left_and_right_within(self):
        pattern = Less(Then(Sign("a"), Again(Sign("b"))), Either(Outside(Empty()), Turned(Never())))
        self.assertEqual(pattern.shape(), ("less", ("then", A, ("again", B)),
                                           ("either", ("outside", ("empty",)), ("turned", ("never",)))))

    def test_one_pattern_may_stand_several_times(self):
        one = Either(Sign("a"), Empty())
        self.assertEqual(Then(one, one).shape(), ("then", one.shape(), one.shape()))

    def test_what_a_pattern_is_made_of_stays_as_it_was(self):
        inner = Either(Sign("a"), Empty())
        outer = Again(inner)
        for told in range(2):
            self.assertEqual(outer.shape(), ("again", ("either", A, ("empty",))))
            self.assertEqual(outer.text(), "(a|1)*")
            self.assertEqual(outer.machine("ab"), ("ab", ((0, 1), (1, 1)), (True, False)))
            self.assertEqual(inner.text(), "a|1")


class Texts(unittest.TestCase):
    def back(self, shape):
        text = pattern_from(shape).text()
        self.assertEqual(read("ab", text).shape(), shape, text)
        return text

    def test_each_sign(self):
        a = Sign("a")
        b = Sign("b")
        for pattern, text in [
            (Never(), "0"), (Empty(), "1"), (Sign("q"), "q"), (AnySign(), "."), (Either(a, b), "a|b"),
            (Less(a, b), "a-b"), (Both(a, b), "a&b"), (Then(a, b), "ab"), (Outside(a), "!a"), (Turned(a), "<a"),
            (Again(a), "a*"),
        ]:
            self.assertEqual(pattern.text(), text)

    def test_brackets_where_they_need_be(self):
        for text in ["a|b-a", "a|(b-a)", "a-(b|a)", "(a|b)&a", "a|b&a", "a&b&a", "a&(b&a)", "aba", "a(ba)", "a(b&a)",
                     "(a&b)a", "!ab", "!(ab)", "a!b", "!a*", "(!a)*", "<!a", "!<a", "(<a)*b", "a**", "(ab)*",
                     "(a|b)*", "!(a|b)", "!(a&b)", "a(!b)*", "<a<b", "!!a&!b|<(a-b)-(0-1)"]:
            self.assertEqual(read("ab", text).text(), text)

    def test_brackets_that_need_not_be_fall_away(self):
        for text, told in [("(a)", "a"), ("((a))*", "a*"), ("(a|b)|a", "a|b|a"), ("(a&b)&a", "a&b&a"),
                           ("(ab)a", "aba"), ("!(!a)", "!!a"), ("!(a*)", "!a*"), ("(a*)*", "a**"), ("(!a)b", "!ab"),
                           ("a(!b)", "a!b"), ("a|(b&a)", "a|b&a"), ("(ab)&(ba)", "ab&ba"), ("(0)(1)(.)", "01.")]:
            self.assertEqual(read("ab", text).text(), told)

    def test_each_kind_within_each_other_one_on_either_side(self):
        for deep in each_kind(A):
            for inner in each_kind(deep):
                for kind in ALONE:
                    self.no_bracket_can_go((kind, inner))
                for kind, other in itertools.product(PAIRS, each_kind(B)):
                    self.no_bracket_can_go((kind, inner, other))
                    self.no_bracket_can_go((kind, other, inner))

    def no_bracket_can_go(self, shape):
        text = self.back(shape)
        for shorter in without_each_bracket(text):
            self.assertNotEqual(shape_read("ab", shorter), shape, text)

    def test_no_text_with_fewer_brackets_has_the_same_shape(self):
        seen = 0
        for text in viable_texts("a", "a|&!*()", 6):
            shape = shape_read("a", text)
            told = pattern_from(shape).text()
            self.assertEqual(shape_read("a", told), shape)
            self.assertLessEqual(told.count("("), text.count("("), text)
            seen = seen + ("(" in text)
        self.assertGreater(seen, 200)

    def test_some_patterns_of_a_hundred_and_twenty_parts(self):
        chance = random.Random(51)
        for number in range(60):
            self.back(some_shape(chance, "ab", 120))

    def test_sixty_deep(self):
        kinds = sorted(ALONE) + sorted(PAIRS)
        for one, two in itertools.product(kinds, repeat=2):
            for left in [[True], [False], [True, False], [False, False, True]]:
                for deep in [59, 60]:
                    shape = nested([one, two], left, deep)
                    self.assertLessEqual(len(parts_of(shape)), 121)
                    self.back(shape)


class Machines(unittest.TestCase):
    def right(self, letters, shape):
        pattern = pattern_from(shape)
        refusal = refusal_of(lambda: pattern.machine(letters))
        if refusal is None:
            self.takes_the_words(letters, shape, pattern.machine(letters))
            return True
        self.assertEqual(classes_of(refusal), ["TooMany"])
        self.assertIn(refusal.part, parts_of(shape))
        fault = too_many_fault(refusal, letters, lambda word: in_shape(refusal.part, letters, word))
        self.assertIs(fault, None, (letters, shape))
        return False

    def takes_the_words(self, letters, shape, machine):
        self.assertEqual(machine[0], letters)
        self.assertIs(plain_fault(machine), None, shape)
        self.assertLessEqual(len(machine[1]), 8)
        for word in words_up_to(letters, LONGEST[len(letters)]):
            self.assertIs(takes(machine, word), in_shape(shape, letters, word), (letters, shape, word))

    def test_the_pieces(self):
        self.assertEqual(Never().machine("ba"), ("ba", ((0, 0),), (False,)))
        self.assertEqual(Empty().machine("ba"), ("ba", ((1, 1), (1, 1)), (True, False)))
        self.assertEqual(AnySign().machine("ba"), ("ba", ((1, 1), (2, 2), (2, 2)), (False, True, False)))
        self.assertEqual(Sign("b").machine("ba"), ("ba", ((1, 2), (2, 2), (2, 2)), (False, True, False)))
        self.assertEqual(Sign("a").machine("ba"), ("ba", ((1, 2), (1, 1), (1, 1)), (False, False, True)))
        self.assertEqual(Sign("q").machine("q"), ("q", ((1,), (2,), (2,)), (False, True, False)))

    def test_each_kind_over_one_two_and_three_letters(self):
        for letters in ["a", "b", "ab", "ba", "abc", "bca", "cba"]:
            signs = [("sign", letter) for letter in letters]
            for x, y in itertools.product(signs + [("any",), ("empty",), ("never",)], repeat=2):
                for kind in PAIRS:
                    self.assertIs(self.right(letters, (kind, x, y)), True)
                    self.assertIs(self.right(letters, ("again", (kind, x, ("again", y)))), True)
                for kind in ALONE:
                    self.assertIs(self.right(letters, (kind, x)), True)
                    self.assertIs(self.right(letters, (kind, ("then", x, y))), True)

    def test_some_patterns(self):
        chance = random.Random(52)
        outcomes = []
        for letters in ["a", "ba", "cab"]:
            for number in range(150):
                kinds = ["then", "then", "then", "less", "either", "turned"] if number % 2 else None
                outcomes.append(self.right(letters, some_shape(chance, letters, 4 + number // 6, kinds)))
        self.assertGreater(outcomes.count(True), 200)
        self.assertGreater(outcomes.count(False), 20)

    def test_each_part_of_what_is_let_by_is_let_by(self):
        chance = random.Random(53)
        for number in range(40):
            shape = some_shape(chance, "ab", 9)
            if refusal_of(lambda: pattern_from(shape).machine("ab")) is None:
                for part in parts_of(shape):
                    self.assertIs(self.right("ab", part), True)

    def test_just_eight_rooms(self):
        for text in ["aaaaaa", "......", "!......", "<aaaaaa", "......|aaaaaa", "......&......", "(...)(...)",
                     "<(..a!0)", ".*a..", "(....)*&(b|ab*a)*"]:
            machine = read("ab", text).machine("ab")
            self.assertEqual(len(machine[1]), 8, text)
            self.takes_the_words("ab", shape_read("ab", text), machine)

    def test_more_than_eight_rooms(self):
        for text in ["aaaaaaa", ".......", "......-aaaaaa", "(...)(....)", "<(...a!0)", ".*a...", "(.....)*&(..)*",
                     "(...|.....)*", "(aaaaa|bbb)*", "(aaaa|bbbb)*", "(......|.....)*", "!.......", "<.......!0"]:
            self.assertIs(self.right("ab", shape_read("ab", text)), False, text)

    def test_a_part_that_is_too_great_within_a_whole_that_is_not(self):
        great = Then(Then(Then(AnySign(), AnySign()), Then(AnySign(), AnySign())),
                     Then(Then(AnySign(), AnySign()), Sign("a")))
        for whole in [Both(Never(), great), Both(great, Never()), Either(great, Outside(Never())), Less(great, great),
                      Less(Never(), great), Then(Never(), great), Then(great, Never()), Turned(Both(Never(), great)),
                      Again(Both(great, Never()))]:
            refusal = refusal_of(lambda: whole.machine("ab"))
            self.assertEqual(classes_of(refusal), ["TooMany"])
            self.assertEqual(refusal.part, great.shape())
            self.assertIs(self.right("ab", whole.shape()), False)

    def test_the_part_told_may_be_the_whole(self):
        whole = Turned(read("ab", "..a!0"))
        refusal = refusal_of(lambda: whole.machine("ab"))
        self.assertIs(refusal, None)
        whole = Turned(read("ab", "...a!0"))
        refusal = refusal_of(lambda: whole.machine("ab"))
        self.assertEqual(refusal.part, ("turned", shape_read("ab", "...a!0")))
        self.assertIs(self.right("ab", whole.shape()), False)

    def test_the_lists_of_a_refusal_are_the_askers_own(self):
        pattern = read("ab", ".......")
        one = refusal_of(lambda: pattern.machine("ab"))
        words, tails = list(one.words), list(one.tails)
        one.words.clear()
        one.tails.clear()
        two = refusal_of(lambda: pattern.machine("ab"))
        self.assertEqual((two.words, two.tails), (words, tails))

    def test_no_letters_whatever_signs_the_pattern_has(self):
        great = read("ab", "..........")
        for pattern in [Never(), Sign("a"), Sign("z"), Then(Sign("x"), Again(Sign("y"))), Outside(AnySign()), great]:
            for text in NO_LETTERS:
                refusal = refusal_of(lambda: pattern.machine(text))
                self.assertEqual(classes_of(refusal), ["NoLetters"], text)

    def test_sixty_deep_and_a_hundred_and_twenty_parts(self):
        self.assertEqual(pattern_from(nested(["outside"], [True], 60)).machine("ab"), Sign("a").machine("ab"))
        self.assertEqual(pattern_from(nested(["turned"], [True], 60)).machine("ab"), Sign("a").machine("ab"))
        self.assertEqual(pattern_from(nested(["again"], [True], 60)).machine("ab"), Again(Sign("a")).machine("ab"))
        self.assertEqual(pattern_from(nested(["less", "either"], [True], 59)).machine("ba"), Sign("a").machine("ba"))
        self.assertEqual(pattern_from(nested(["either", "both"], [False], 59)).machine("ba"), Sign("b").machine("ba"))
        self.assertEqual(pattern_from(nested(["again", "either"], [True], 60)).machine("ba"),
                         Outside(Never()).machine("ba"))
        chance = random.Random(54)
        for number in range(20):
            refusal = refusal_of(lambda: pattern_from(some_shape(chance, "abc", 120)).machine("abc"))
            self.assertIn(classes_of(refusal), [[], ["TooMany"]])


class TheSameWords(unittest.TestCase):
    def test_equal_machines_just_where_the_words_are_the_same(self):
        for one, two in [("(a|b)*", ".*"), ("!0", ".*"), ("a*&b*", "1"), ("(a*b*)*", ".*"), ("a-a", "0"),
                         ("<(ab)", "ba"), ("(ab)*a", "a(ba)*"), ("!(!0aa!0)", "(b|ab)*(a|1)"), ("<!ab", "(<!a)b")]:
            self.assertEqual(read("ab", one).machine("ab"), read("ab", two).machine("ab"), (one, two))

    def test_else_the_first_word_that_just_one_has(self):
        for one, two, word in [("a*", ".*", "b"), ("0", "1", ""), ("(ab)*", "1", "ab"), ("aab", "aba", "aab"),
                               ("!0bb", "!0b", "b"), ("...", ".b.", "aaa")]:
            machine = read("ab", one).machine("ab")
            second = read("ab", two).machine("ab")
            self.assertNotEqual(machine, second)
            self.assertEqual(apart(machine, second), word)

    def test_some_patterns(self):
        chance = random.Random(55)
        machines = {}
        for number in range(120):
            shape = some_shape(chance, "ba", 5)
            if refusal_of(lambda: pattern_from(shape).machine("ba")) is None:
                machines[shape] = pattern_from(shape).machine("ba")
        for one, two in itertools.combinations(machines, 2):
            words = words_up_to("ba", 5)
            first = next((word for word in words if in_shape(one, "ba", word) != in_shape(two, "ba", word)), None)
            self.assertIs(machines[one] == machines[two], first is None)
            self.assertEqual(apart(machines[one], machines[two]), first)


class Interface(unittest.TestCase):
    def test_arguments_bear_their_names(self):
        for name in ["Never", "Empty", "AnySign"]:
            self.assertEqual(list(inspect.signature(getattr(patterns, name)).parameters), [])
        self.assertEqual(list(inspect.signature(Sign).parameters), ["sign"])
        for name in ["Either", "Less", "Both", "Then"]:
            self.assertEqual(list(inspect.signature(getattr(patterns, name)).parameters), ["left", "right"])
        for name in ["Outside", "Turned", "Again"]:
            self.assertEqual(list(inspect.signature(getattr(patterns, name)).parameters), ["inner"])
        self.assertEqual(list(inspect.signature(Never().shape).parameters), [])
        self.assertEqual(list(inspect.signature(Never().text).parameters), [])
        self.assertEqual(list(inspect.signature(Never().machine).parameters), ["letters"])

    def test_made_with_their_arguments_named(self):
        self.assertEqual(Less(right=Sign(sign="a"), left=Empty()).shape(), ("less", ("empty",), A))
        self.assertEqual(Turned(inner=Never()).shape(), ("turned", ("never",)))


if __name__ == "__main__":
    unittest.main()
