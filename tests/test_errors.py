"""The refusals: their classes and their fields (points 2, 5 to 9, 11, 13 to 15, 19, 21 to 24, 32 to 35, interface)."""

import unittest

from helper import REFUSALS, classes_of, in_a_row, refusal_of
from roomalgebra import errors
from roomalgebra.acts import act_of, acts, table
from roomalgebra.ideals import groups_of, lead_over, lots_of_acts
from roomalgebra.joins import again, both, either, less, outside, then, turned
from roomalgebra.least import apart, parting
from roomalgebra.machines import made, room_after, takes
from roomalgebra.patterns import Never
from roomalgebra.reader import read
from roomalgebra.tell import says, tell
from roomalgebra.words import earlier, next_word, number_of, word_of

LOOP = made("ab", [[0, 0]], [True])
OTHER = made("ba", [[0, 0]], [True])


class Classes(unittest.TestCase):
    def test_each_stands_straight_under_room_error(self):
        self.assertEqual(errors.RoomError.__bases__, (ValueError,))
        for name in REFUSALS:
            self.assertEqual(getattr(errors, name).__bases__, (errors.RoomError,), name)

    def test_none_is_under_another(self):
        for name in REFUSALS:
            for other in REFUSALS:
                under = issubclass(getattr(errors, name), getattr(errors, other))
                self.assertEqual(under, name == other, (name, other))

    def test_there_are_ten_classes_besides_room_error(self):
        names = [name for name, thing in vars(errors).items() if isinstance(thing, type)]
        self.assertEqual(sorted(names), sorted(REFUSALS + ["RoomError"]))


class Fields(unittest.TestCase):
    def test_too_many(self):
        for part in [None, ("again", ("any",))]:
            refusal = errors.TooMany(["", "a"], [(0, 1, "b")], part)
            self.assertEqual(refusal.words, ["", "a"])
            self.assertEqual(refusal.tails, [(0, 1, "b")])
            self.assertEqual(refusal.part, part)

    def test_no_pattern(self):
        for at in [0, 7]:
            self.assertEqual(errors.NoPattern(at).at, at)

    def test_too_great(self):
        self.assertEqual(errors.TooGreat(["", "a"]).words, ["", "a"])

    def test_the_lists_are_the_askers_own(self):
        words = ["", "a"]
        tails = [(0, 1, "b")]
        many = errors.TooMany(words, tails, None)
        great = errors.TooGreat(words)
        words.append("b")
        tails.clear()
        self.assertEqual(many.words, ["", "a"])
        self.assertEqual(many.tails, [(0, 1, "b")])
        self.assertEqual(great.words, ["", "a"])
        many.words.clear()
        self.assertEqual(great.words, ["", "a"])


class EachRefusalIsOfItsOwnClass(unittest.TestCase):
    def refused_with(self, name, call):
        refusal = refusal_of(call)
        self.assertIsInstance(refusal, errors.RoomError)
        self.assertIsInstance(refusal, ValueError)
        self.assertEqual(classes_of(refusal), [name])

    def test_no_letters(self):
        self.refused_with("NoLetters", lambda: earlier("", "", ""))
        self.refused_with("NoLetters", lambda: number_of("aa", "a"))
        self.refused_with("NoLetters", lambda: word_of("abcd", 1))
        self.refused_with("NoLetters", lambda: next_word("A", ""))
        self.refused_with("NoLetters", lambda: made("", [[0]], [True]))
        self.refused_with("NoLetters", lambda: read("abb", "a"))
        self.refused_with("NoLetters", lambda: Never().machine(""))
        self.refused_with("NoLetters", lambda: says("first", "aa", ([], []), "b"))
        self.refused_with("NoLetters", lambda: says("last", "aa", ([], []), "b"))
        self.refused_with("NoLetters", lambda: says("within", "aa", [], "b"))
        self.refused_with("NoLetters", lambda: says("tally", "aa", ([(0, 1), (0, 1)], []), "b"))
        self.refused_with("NoLetters", lambda: says("counts", "aa", ([1, 1], []), "b"))
        self.refused_with("NoLetters", lambda: says("onward", "aa", [], "b"))
        self.refused_with("NoLetters", lambda: says("plain", "aa", ([(None, None, "", [])], []), "b"))

    def test_no_word(self):
        self.refused_with("NoWord", lambda: earlier("ab", "c", ""))
        self.refused_with("NoWord", lambda: earlier("ab", "", "c"))
        self.refused_with("NoWord", lambda: number_of("ab", "c"))
        self.refused_with("NoWord", lambda: next_word("ab", "c"))
        self.refused_with("NoWord", lambda: room_after(LOOP, 0, "c"))
        self.refused_with("NoWord", lambda: takes(LOOP, "c"))
        self.refused_with("NoWord", lambda: act_of(LOOP, "c"))
        self.refused_with("NoWord", lambda: says("first", "ab", ([], []), "c"))
        self.refused_with("NoWord", lambda: says("last", "ab", ([], []), "c"))
        self.refused_with("NoWord", lambda: says("within", "ab", [], "c"))
        self.refused_with("NoWord", lambda: says("tally", "ab", ([(0, 1), (0, 1)], []), "c"))
        self.refused_with("NoWord", lambda: says("counts", "ab", ([1, 1], []), "c"))
        self.refused_with("NoWord", lambda: says("onward", "ab", [], "c"))
        self.refused_with("NoWord", lambda: says("plain", "ab", ([(None, None, "", [])], []), "c"))
        self.refused_with("NoWord", lambda: lead_over(LOOP, "c", ""))
        self.refused_with("NoWord", lambda: lead_over(LOOP, "", "c"))

    def test_no_number(self):
        self.refused_with("NoNumber", lambda: word_of("ab", -1))
        self.refused_with("NoNumber", lambda: word_of("a", 201))

    def test_no_room(self):
        self.refused_with("NoRoom", lambda: room_after(LOOP, 1, ""))
        self.refused_with("NoRoom", lambda: room_after(LOOP, -1, ""))
        self.refused_with("NoRoom", lambda: parting(LOOP, 0, 1))
        self.refused_with("NoRoom", lambda: parting(LOOP, -1, 0))

    def test_no_machine(self):
        self.refused_with("NoMachine", lambda: made("a", [], []))
        self.refused_with("NoMachine", lambda: made("a", [[1]], [True]))

    def test_other_letters(self):
        self.refused_with("OtherLetters", lambda: apart(LOOP, OTHER))
        self.refused_with("OtherLetters", lambda: either(LOOP, OTHER))
        self.refused_with("OtherLetters", lambda: both(LOOP, OTHER))
        self.refused_with("OtherLetters", lambda: less(LOOP, OTHER))
        self.refused_with("OtherLetters", lambda: then(LOOP, OTHER))

    def test_too_many(self):
        seven = made("a", [[(room + 1) % 7] for room in range(7)], [room == 0 for room in range(7)])
        two = made("a", [[1], [0]], [True, False])
        tangled = made("ab", [[1, 0], [2, 1], [3, 0], [4, 2], [4, 5], [0, 1]], [False] * 5 + [True])
        self.refused_with("TooMany", lambda: either(seven, two))
        self.refused_with("TooMany", lambda: both(seven, two))
        self.refused_with("TooMany", lambda: less(seven, two))
        self.refused_with("TooMany", lambda: then(in_a_row("a", 8), in_a_row("a", 8)))
        self.refused_with("TooMany", lambda: again(read("a", "...|.....").machine("a")))
        self.refused_with("TooMany", lambda: turned(tangled))
        self.refused_with("TooMany", lambda: read("ab", "aaaaaaa").machine("ab"))
        self.assertIs(refusal_of(lambda: outside(seven)), None)

    def test_too_great(self):
        tangled = made("ab", [[1, 0], [2, 1], [3, 0], [4, 2], [4, 5], [0, 1]], [False] * 5 + [True])
        self.refused_with("TooGreat", lambda: acts(tangled))
        self.refused_with("TooGreat", lambda: table(tangled))
        self.refused_with("TooGreat", lambda: lots_of_acts(tangled))
        self.refused_with("TooGreat", lambda: lead_over(tangled, "a", "b"))
        self.refused_with("TooGreat", lambda: groups_of(tangled))
        self.refused_with("TooGreat", lambda: tell("plain", tangled))

    def test_no_kind(self):
        self.refused_with("NoKind", lambda: tell("", LOOP))
        self.refused_with("NoKind", lambda: tell("firsts", LOOP))
        self.refused_with("NoKind", lambda: says("", "ab", [], "a"))
        self.refused_with("NoKind", lambda: says("plai", "", None, "?"))

    def test_no_pattern(self):
        self.refused_with("NoPattern", lambda: read("ab", ""))
        self.refused_with("NoPattern", lambda: read("ab", "a)"))


if __name__ == "__main__":
    unittest.main()
