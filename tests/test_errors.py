"""The refusals: their classes and their fields (points 2, 5 to 9 and the interface)."""

import unittest

from roomalgebra import errors
from roomalgebra.machines import made, room_after, takes
from roomalgebra.words import earlier, next_word, number_of, word_of

PLAIN = ["NoLetters", "NoWord", "NoNumber", "NoRoom", "NoMachine", "OtherLetters", "NoKind"]
WITH_FIELDS = ["TooMany", "NoPattern", "TooGreat"]
LOOP = made("ab", [[0, 0]], [True])


def refusal_of(call):
    try:
        call()
    except errors.RoomError as refusal:
        return refusal
    return None


class Classes(unittest.TestCase):
    def test_each_stands_straight_under_room_error(self):
        self.assertEqual(errors.RoomError.__bases__, (ValueError,))
        for name in PLAIN + WITH_FIELDS:
            self.assertEqual(getattr(errors, name).__bases__, (errors.RoomError,), name)

    def test_none_is_under_another(self):
        for name in PLAIN + WITH_FIELDS:
            for other in PLAIN + WITH_FIELDS:
                under = issubclass(getattr(errors, name), getattr(errors, other))
                self.assertEqual(under, name == other, (name, other))

    def test_there_are_ten_classes_besides_room_error(self):
        under = [thing for thing in vars(errors).values() if isinstance(thing, type)]
        self.assertEqual(len(under), 11)


class Fields(unittest.TestCase):
    def test_too_many(self):
        for part in [None, ("again", ("any",))]:
            refusal = errors.TooMany(["", "a"], [(0, 1, "b")], part)
            self.assertEqual(refusal.words, ["", "a"])
            self.assertEqual(refusal.tails, [(0, 1, "b")])
            self.assertEqual(refusal.part, part)

    def test_no_pattern(self):
        for at in [0, 7]:
            self.assertEqual(errors.NoPattern(at).at, at)

    def test_too_great(self):
        self.assertEqual(errors.TooGreat(["", "a"]).words, ["", "a"])

    def test_the_lists_are_the_askers_own(self):
        words = ["", "a"]
        tails = [(0, 1, "b")]
        many = errors.TooMany(words, tails, None)
        great = errors.TooGreat(words)
        words.append("b")
        tails.clear()
        self.assertEqual(many.words, ["", "a"])
        self.assertEqual(many.tails, [(0, 1, "b")])
        self.assertEqual(great.words, ["", "a"])
        many.words.clear()
        self.assertEqual(great.words, ["", "a"])


class EachRefusalIsOfItsOwnClass(unittest.TestCase):
    def refused_with(self, name, call):
        refusal = refusal_of(call)
        self.assertIsInstance(refusal, errors.RoomError)
        self.assertIsInstance(refusal, ValueError)
        held = [other for other in PLAIN + WITH_FIELDS if isinstance(refusal, getattr(errors, other))]
        self.assertEqual(held, [name])

    def test_no_letters(self):
        self.refused_with("NoLetters", lambda: earlier("", "", ""))
        self.refused_with("NoLetters", lambda: number_of("aa", "a"))
        self.refused_with("NoLetters", lambda: word_of("abcd", 1))
        self.refused_with("NoLetters", lambda: next_word("A", ""))
        self.refused_with("NoLetters", lambda: made("", [[0]], [True]))

    def test_no_word(self):
        self.refused_with("NoWord", lambda: earlier("ab", "c", ""))
        self.refused_with("NoWord", lambda: earlier("ab", "", "c"))
        self.refused_with("NoWord", lambda: number_of("ab", "c"))
        self.refused_with("NoWord", lambda: next_word("ab", "c"))
        self.refused_with("NoWord", lambda: room_after(LOOP, 0, "c"))
        self.refused_with("NoWord", lambda: takes(LOOP, "c"))

    def test_no_number(self):
        self.refused_with("NoNumber", lambda: word_of("ab", -1))
        self.refused_with("NoNumber", lambda: word_of("a", 201))

    def test_no_room(self):
        self.refused_with("NoRoom", lambda: room_after(LOOP, 1, ""))
        self.refused_with("NoRoom", lambda: room_after(LOOP, -1, ""))

    def test_no_machine(self):
        self.refused_with("NoMachine", lambda: made("a", [], []))
        self.refused_with("NoMachine", lambda: made("a", [[1]], [True]))


if __name__ == "__main__":
    unittest.main()
