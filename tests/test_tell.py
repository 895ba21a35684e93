"""Tell and says for each of the seven kinds by its name, the kinds beside one another, and the whole (points 1 to 6, 24
to 30 and 35)."""

import inspect
import random
import unittest

from helper import (ALL_ACTS, KINDS, NO_LETTERS, Verdicts, bar_fault, circle, classes_of, every_machine_of_two_rooms,
                    great_fault, in_a_row, in_shape, lists_in, loosened, of, pattern_from, refusal_of, some_machine,
                    some_machines, some_shape, words_up_to)
from roomalgebra.errors import RoomError, TooMany
from roomalgebra.joins import outside, turned
from roomalgebra.least import least
from roomalgebra.machines import made
from roomalgebra.reader import read
from roomalgebra.tell import says, tell

NO_KINDS = ["", " ", "firs", "irst", "first ", " first", "First", "FIRST", "lasts", "las", "withi", "withinn", "tallys",
            "count", "counts ", "onwards", "onwar", "plai", "plainn", "plain~", "None", "first,last", "x" * 1000]
# For each kind a pattern over ab whose set is of the kind, with its paper (None where that is not promised), and one
# whose set is not.
BY_NAME = {
    "first": ("1|ab|b.*", (["", "ab"], ["b"]), ".*b"),
    "last": ("1|ba|.*b", (["", "ba"], ["b"]), "b.*"),
    "within": (".*a.*", ["a", "ab"], "a"),
    "tally": ("b*ab*", ([(2, 1), (0, 1)], [(1, 0)]), "ab"),
    "counts": ("(b|ab*a)*", ([2, 1], [(0, 0)]), "b*ab*"),
    "onward": ("a*b*", [(["a"], ""), (["a", "b"], "b")], ".*a"),
    "plain": ("(ab)*", None, "(aa)*"),
}
SAMPLES = [machine for letters, rooms, many in [("a", 5, 25), ("ba", 3, 40), ("cab", 2, 15), ("cab", 3, 10)]
           for machine in some_machines(251, many, letters, rooms)]


def samples_and_papers():
    for kind, (text, paper, other) in BY_NAME.items():
        yield kind, tell(kind, of("ab", text))[1]


class ByName(Verdicts, unittest.TestCase):
    def test_each_kind(self):
        for kind, (text, paper, other) in BY_NAME.items():
            told = self.of_the_kind(kind, of("ab", text))
            if paper is not None:
                self.assertEqual(told, paper, kind)
            self.not_of_the_kind(kind, of("ab", other))

    def test_all_seven_are_there(self):
        self.assertEqual(list(BY_NAME), KINDS)

    def test_no_kind(self):
        for kind in NO_KINDS:
            for call in [lambda: tell(kind, of("ab", "a")), lambda: says(kind, "ab", ([], []), "a")]:
                refusal = refusal_of(call)
                self.assertEqual(classes_of(refusal), ["NoKind"], kind)
                self.assertIsInstance(refusal, RoomError)
                self.assertIsInstance(refusal, ValueError)

    def test_no_kind_ahead_of_everything_else(self):
        for kind in NO_KINDS:
            self.assertEqual(classes_of(refusal_of(lambda: tell(kind, ALL_ACTS))), ["NoKind"])
            for letters in NO_LETTERS + ["ab"]:
                for paper in [None, [], ([], [])]:
                    for word in ["", "?", "a" * 999 + " "]:
                        refusal = refusal_of(lambda: says(kind, letters, paper, word))
                        self.assertEqual(classes_of(refusal), ["NoKind"], (kind, letters, word))

    def test_no_letters_ahead_of_no_word(self):
        for kind, paper in samples_and_papers():
            for letters in NO_LETTERS:
                for word in ["", "a", "?"]:
                    refusal = refusal_of(lambda: says(kind, letters, paper, word))
                    self.assertEqual(classes_of(refusal), ["NoLetters"], (kind, letters, word))

    def test_no_word(self):
        for kind, paper in samples_and_papers():
            for word in ["c", "abc", "A", " ", "ab ", "~", "ab" * 20 + "c"]:
                refusal = refusal_of(lambda: says(kind, "ab", paper, word))
                self.assertEqual(classes_of(refusal), ["NoWord"], (kind, word))

    def test_too_great_for_plain_alone(self):
        for kind in KINDS:
            refusal = refusal_of(lambda: tell(kind, ALL_ACTS))
            if kind == "plain":
                self.assertIs(great_fault(refusal, least(ALL_ACTS)), None)
            else:
                self.assertIs(refusal, None)

    def test_a_paper_that_is_handed_in_stays(self):
        for kind, paper in samples_and_papers():
            kept = repr(paper)
            for word in ["", "ab", "bab"]:
                self.assertIs(type(says(kind, "ab", paper, word)), bool)
            self.assertEqual(repr(paper), kept)

    def test_arguments_bear_their_names(self):
        self.assertEqual(list(inspect.signature(tell).parameters), ["kind", "machine"])
        self.assertEqual(list(inspect.signature(says).parameters), ["kind", "letters", "paper", "word"])


class EachKind(Verdicts, unittest.TestCase):
    def test_told_lists_are_the_askers_own(self):
        for machine in SAMPLES + [of("ab", text) for text, paper, other in BY_NAME.values()]:
            for kind in KINDS:
                kept = repr(machine)
                told, again = tell(kind, machine), tell(kind, machine)
                self.assertEqual(told, again)
                for found in lists_in(told):
                    found.append("spoilt")
                self.assertEqual(tell(kind, machine), again)
                self.assertEqual(repr(machine), kept)

    def test_machines_that_are_not_least(self):
        for number, machine in enumerate(SAMPLES):
            loose = loosened(machine, number)
            for kind in KINDS:
                self.right_either_way(kind, loose)
                self.assertIs(tell(kind, loose)[0], tell(kind, machine)[0])
                if tell(kind, machine)[0]:
                    self.assertEqual(tell(kind, loose), tell(kind, machine))

    def test_every_word_and_no_word(self):
        for letters in ["a", "ba", "cab"]:
            for rooms in [1, 8]:
                for ways in [circle(letters, rooms)[1], in_a_row(letters, rooms)[1]]:
                    for mark in [True, False]:
                        for kind in KINDS:
                            self.of_the_kind(kind, made(letters, ways, [mark] * rooms))

    def test_a_set_is_of_a_kind_just_where_the_words_that_are_not_in_it_are(self):
        for machine in SAMPLES:
            for kind in KINDS:
                self.assertIs(tell(kind, outside(machine))[0], tell(kind, machine)[0])

    def test_machines_of_eight_rooms_over_three_letters_in_good_time(self):
        chance = random.Random(83)
        for number in range(60):
            machine = some_machine(chance, "cab", 8)
            for kind in KINDS:
                self.right_either_way(kind, machine)

    def test_machines_of_eight_rooms_with_many_words_on_the_paper_in_good_time(self):
        for machine in [in_a_row("cab", 8), outside(in_a_row("cab", 8))]:
            for kind in KINDS:
                told = tell(kind, machine)
                if told[0]:
                    for word in ["", "c" * 6, "cabcab", "cabcabc", "b" * 100]:
                        self.assertIs(says(kind, "cab", told[1], word), (len(word) >= 7) is machine[2][-1])
                else:
                    self.not_of_the_kind(kind, machine)


class BesideOneAnother(unittest.TestCase):
    def machines(self):
        chance = random.Random(257)
        machines = SAMPLES + list(every_machine_of_two_rooms("ba"))
        for letters in ["a", "ba", "cab"]:
            for number in range(15):
                ways = [[chance.randrange(room, 5) for letter in letters] for room in range(5)]
                machines.append(made(letters, ways, [chance.randrange(2) == 0 for room in range(5)]))
        machines += [of("ab", text) for told in BY_NAME.values() for text in (told[0], told[2])]
        return machines

    def implied(self, kind, others):
        """What is of the one kind is of the others too; there must be sets of it to be asked of."""
        met = 0
        for machine in self.machines():
            if tell(kind, machine)[0]:
                for other in others:
                    told = refusal_of(lambda: tell(other, machine))
                    if told is None:
                        self.assertIs(tell(other, machine)[0], True, (kind, other, machine))
                        met += 1
        self.assertGreater(met, 20)

    def test_what_is_plain_too(self):
        for kind in ["first", "last", "within", "onward"]:
            self.implied(kind, ["plain"])

    def test_what_is_onward_too(self):
        self.implied("first", ["onward"])
        self.implied("within", ["onward", "tally"])

    def test_what_is_tally_too(self):
        self.implied("counts", ["tally"])

    def test_plain_and_counts_are_the_sets_of_all_words_and_of_none(self):
        for machine in self.machines():
            if refusal_of(lambda: tell("plain", machine)) is None:
                both = tell("plain", machine)[0] and tell("counts", machine)[0]
                self.assertIs(both, len(least(machine)[1]) == 1, machine)

    def test_first_and_last_read_from_behind(self):
        met = []
        for machine in self.machines():
            try:
                about = turned(machine)
            except TooMany:
                continue
            self.assertIs(tell("last", about)[0], tell("first", machine)[0])
            self.assertIs(tell("first", about)[0], tell("last", machine)[0])
            met.append(tell("first", machine)[0])
        self.assertEqual(sorted(set(met)), [False, True])

    def test_a_set_and_the_words_outside_it_are_plain_together(self):
        for machine in self.machines():
            if refusal_of(lambda: tell("plain", machine)) is None:
                self.assertIs(tell("plain", outside(machine))[0], tell("plain", machine)[0])


class OverTheWhole(Verdicts, unittest.TestCase):
    def right_for(self, letters, shape, machine):
        """Each kind tells a paper that has just the pattern's words, or a bar of words in the pattern and not."""
        def is_in(word):
            return in_shape(shape, letters, word)

        for kind in KINDS:
            if refusal_of(lambda: tell(kind, machine)) is not None:
                self.right_either_way(kind, machine)
                continue
            told = tell(kind, machine)
            if told[0]:
                self.says_rightly(kind, letters, told[1], is_in, {1: 12, 2: 5, 3: 4}[len(letters)])
            else:
                self.not_of_the_kind(kind, machine)
                self.assertIs(bar_fault(kind, letters, is_in, told[1], [0, 1, 2]), None)
            self.met.add((kind, told[0]))

    def test_some_patterns(self):
        self.met = set()
        for letters in ["a", "ab", "ba", "cab"]:
            for text in ["0", "1", ".*", "a", "!a", "a*", ".a*", "<(a.*)", "(..)*", "!((.a)*)", "a*.a*", "(aa|a.)*-a"]:
                pattern = read(letters, text)
                self.right_for(letters, pattern.shape(), pattern.machine(letters))
        self.assertEqual(len(self.met), 14)

    def test_many_patterns(self):
        self.met = set()
        chance = random.Random(263)
        many = 0
        while many < 300:
            letters = chance.choice(["a", "ba", "cab"])
            shape = some_shape(chance, letters, chance.randrange(1, 10))
            try:
                machine = pattern_from(shape).machine(letters)
            except TooMany:
                continue
            self.right_for(letters, shape, machine)
            many += 1
        self.assertEqual(len(self.met), 14)

    def test_many_machines(self):
        told = [(kind, tell(kind, machine)[0]) for machine in SAMPLES for kind in KINDS]
        self.assertEqual(len(set(told)), 14)
        for machine in SAMPLES:
            for kind in KINDS:
                self.right_either_way(kind, machine)


if __name__ == "__main__":
    unittest.main()
