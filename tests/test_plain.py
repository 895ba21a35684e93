"""The kind plain: rows, bars, refusals, and what rows say of words (points 2 to 4, 22, 24 and 35)."""

import random
import unittest

from helper import (ALL_ACTS, READERS, Verdicts, acts_by_hand, circle, classes_of, every_machine_of_two_rooms,
                    great_fault, in_a_row, in_place, lists_in, loosened, of, refusal_of, set_of, some_machine,
                    some_machines, words_up_to)
from roomalgebra.acts import acts
from roomalgebra.errors import TooGreat, TooMany
from roomalgebra.joins import outside, turned
from roomalgebra.least import least
from roomalgebra.machines import made, takes
from roomalgebra.pieces import rows_of_word
from roomalgebra.tell import says, tell

SAMPLES = [machine for letters, many in [("a", 30), ("ba", 80), ("cab", 30)]
           for machine in some_machines(227, many, letters, 3)]
# Least machines of just forty acts, by whether their sets are of the kind, and such of just forty-one.
FORTY_PLAIN = [
    made("ba", [[1, 1], [2, 1], [3, 2], [4, 3], [5, 4], [6, 4], [6, 6]], [room == 4 for room in range(7)]),
    made("cab", [[1, 1, 0], [2, 3, 0], [2, 3, 1], [2, 4, 2], [3, 4, 3]], [False, False, True, True, True]),
]
FORTY_OTHERS = [
    made("cab", [[1, 2, 0], [2, 3, 0], [3, 2, 1], [1, 2, 1]], [False, True, True, True]),
    made("ba", [[1, 0], [2, 2], [3, 0], [1, 2]], [False, False, True, False]),
]
FORTY_ONE = [
    made("cab", [[0, 1, 1], [0, 2, 3], [0, 2, 4], [1, 2, 4], [4, 3, 4]], [True, True, False, True, False]),
    made("cab", [[0, 1, 2], [2, 2, 0], [3, 3, 0], [0, 1, 2]], [False, False, False, True]),
    made("ba", [[0, 1], [1, 2], [3, 0], [1, 2]], [False, False, True, True]),
    made("ba", [[0, 1], [0, 2], [0, 3], [2, 4], [4, 5], [5, 5]], [True, False, False, False, True, False]),
]
# A ring of three rooms and a ring of five, and for each a letter that leads from everywhere to its first room.
TWO_RINGS = made("abc", [[(room + 1) % 3, 0, 3] for room in range(3)]
                 + [[3 + (room + 1) % 5, 0, 3] for room in range(5)], [room in (1, 3, 6) for room in range(8)])


def plain_by_hand(machine):
    """As many times as there are rooms are enough; and words that do the same act need not be tried twice."""
    times = len(machine[1])
    return all(in_place(machine, word * times, word * (times + 1)) for word, act in acts_by_hand(machine))


def some_monotone(chance, letters, rooms):
    """No letter leads a later room ahead of an earlier one: then a letter written often enough stays."""
    ways = zip(*[sorted(chance.randrange(rooms) for room in range(rooms)) for letter in letters])
    return made(letters, [list(row) for row in ways], [chance.randrange(2) == 0 for room in range(rooms)])


def some_word(chance, letters, length):
    return "".join(chance.choice(letters) for sign in range(length))


class Told(Verdicts, unittest.TestCase):
    def paper(self, machine):
        return self.of_the_kind("plain", machine)

    def bar(self, machine):
        return self.not_of_the_kind("plain", machine)

    def right_by_hand(self, machine):
        if plain_by_hand(machine):
            self.paper(machine)
            return True
        self.bar(machine)
        return False


class Plain(Told):
    def test_sets_of_the_kind(self):
        for text in ["ab", "(ab)*", ".*aa.*", "!(.*aa.*)", "a*b*", ".*a.*b.*", "(a|ba)*", "a.*|.*b", "1", "0", ".*",
                     "(ab|ba)*", "(ab|ba)*&!(.*aa.*)"]:
            self.paper(of("ab", text))
        for text in ["(abc)*", "(ab|c)*", ".*ab.*c.*", "!(.*(ab|bc).*)", "a*b*c*"]:
            self.paper(of("cab", text))
        for text in ["aaa|a", "aaaaa*", "!(aa)", "a*"]:
            self.paper(of("a", text))

    def test_many_machines(self):
        told = [(machine[0], self.right_by_hand(machine)) for machine in SAMPLES]
        for letters in ["a", "ba", "cab"]:
            self.assertIn((letters, True), told)
            self.assertIn((letters, False), told)

    def test_every_machine_of_two_rooms(self):
        told = [self.right_by_hand(machine) for machine in every_machine_of_two_rooms("ba")]
        self.assertEqual(sorted(set(told)), [False, True])

    def test_every_word_and_no_word(self):
        for letters in ["a", "ba", "cab"]:
            for rooms in [1, 8]:
                every = made(letters, circle(letters, rooms)[1], [True] * rooms)
                none = made(letters, circle(letters, rooms)[1], [False] * rooms)
                self.assertNotEqual(self.paper(every)[1], [])
                self.assertEqual(self.paper(none)[1], [])

    def test_letters_that_do_nothing(self):
        for text in ["c*", "(c|a)*b.*", "c*ac*"]:
            self.paper(of("cab", text))
        self.paper(made("cab", [[0, 1, 0], [1, 1, 1]], [True, False]))
        self.paper(made("cab", [[0, 0, 1], [1, 1, 1]], [True, False]))

    def test_many_machines_of_the_kind(self):
        chance = random.Random(229)
        told = []
        for number in range(120):
            machine = some_monotone(chance, chance.choice(["a", "ba", "cab"]), chance.randrange(2, 9))
            if self.right_either_way("plain", machine) is not None:
                told.append(tell("plain", machine)[0])
        self.assertEqual(set(told), {True})
        self.assertGreater(len(told), 60)

    def test_just_forty_acts(self):
        for machine in FORTY_PLAIN:
            self.assertEqual((least(machine), len(acts(machine))), (machine, 40))
            self.paper(machine)
            self.paper(outside(machine))
        for machine in FORTY_OTHERS:
            self.assertEqual((least(machine), len(acts(machine))), (machine, 40))
            self.bar(machine)
            self.bar(outside(machine))

    def test_machines_that_are_not_least(self):
        for number, machine in enumerate(SAMPLES[::2] + FORTY_PLAIN + FORTY_OTHERS):
            loose = loosened(machine, number)
            self.right_either_way("plain", loose)
            self.assertEqual(tell("plain", loose), tell("plain", machine))

    def test_words_of_a_hundred_signs(self):
        chance = random.Random(233)
        machines = FORTY_PLAIN + [of("ab", "(ab)*"), of("ab", "!(.*aa.*)"), of("abc", "a*b*c*"), of("a", "aaa*")]
        for machine in machines:
            letters = machine[0]
            paper = self.verdict("plain", machine, True)
            tried = ["ab" * 50 if "b" in letters else "a" * 100, letters[0] * 100, letters[-1] * 99]
            tried += [some_word(chance, letters, 100) for number in range(5)]
            for word in tried:
                self.assertIs(says("plain", letters, paper, word), takes(machine, word), (machine, word))

    def test_words_of_middle_length_by_the_words_of_the_document(self):
        chance = random.Random(239)
        for machine in FORTY_PLAIN:
            paper = self.verdict("plain", machine, True)
            reads = READERS["plain"](machine[0], paper)
            for number in range(8):
                word = some_word(chance, machine[0], 16)
                self.assertIs(reads(word), takes(machine, word))
                self.assertIs(says("plain", machine[0], paper, word), takes(machine, word))

    def test_the_lists_are_the_askers_own_and_the_machine_stays(self):
        machine = FORTY_PLAIN[1]
        kept = repr(machine)
        told, again = tell("plain", machine), tell("plain", machine)
        self.assertEqual(told, again)
        for found in lists_in(told):
            found.clear()
        self.assertEqual(tell("plain", machine), again)
        self.assertEqual(repr(machine), kept)

    def test_the_set_and_the_words_outside_it_are_plain_together(self):
        for machine in SAMPLES + FORTY_PLAIN + FORTY_OTHERS:
            self.assertIs(tell("plain", outside(machine))[0], tell("plain", machine)[0])

    def test_the_set_and_the_set_read_from_behind_are_plain_together(self):
        met = 0
        for machine in SAMPLES:
            try:
                about = turned(machine)
                self.assertIs(tell("plain", about)[0], tell("plain", machine)[0])
                met += 1
            except (TooMany, TooGreat):
                pass
        self.assertGreater(met, 100)


class Bars(Told):
    def test_sets_that_are_not_of_the_kind(self):
        for text in ["(aa)*", "(b|ab*a)*", "(..)*", "b(aa)*b", "((a|b)(a|b)(a|b))*", "(aa|bb)*", "!((aa)*)"]:
            self.bar(of("ab", text))
        for text in ["(a|c)*b(cc)*", "(abcabc)*", "c(aa|bb)*c"]:
            self.bar(of("cab", text))

    def test_rings(self):
        for rooms in range(2, 9):
            for letters in ["a", "ba", "cab"]:
                ways = [[(room + 1) % rooms] * len(letters) for room in range(rooms)]
                x, y, z, many = self.bar(made(letters, ways, [room == 0 for room in range(rooms)]))
                self.assertEqual(len(y) * many % rooms, 0)

    def test_a_ring_behind_a_row(self):
        for low in range(1, 7):
            ways = [[room + 1] for room in range(7)] + [[low]]
            self.bar(made("a", ways, [room == 7 for room in range(8)]))

    def test_two_rings_at_once(self):
        self.assertEqual((len(least(TWO_RINGS)[1]), len(acts(TWO_RINGS))), (8, 23))
        self.assertEqual(self.bar(TWO_RINGS)[3] % 15, 0)

    def test_a_group_that_no_letter_is_of(self):
        self.assertGreater(len(self.bar(of("ab", "(abab)*"))[1]), 1)

    def test_the_first_words_in_or_the_second_ones(self):
        even = of("ab", "(b|ab*a)*")
        for machine in [even, outside(even)]:
            x, y, z, many = self.bar(machine)
            is_in = set_of(machine)
            self.assertIsNot(is_in(x + y * many + z), is_in(x + y * (many + 1) + z))
            self.assertIs(is_in(x + y * many + z), is_in(x + y * (5 * many) + z))


class MoreThanForty(Told):
    def refused(self, machine):
        refusal = refusal_of(lambda: tell("plain", machine))
        self.assertIs(great_fault(refusal, least(machine)), None)
        return refusal

    def test_just_forty_one(self):
        for machine in FORTY_ONE:
            self.assertEqual(least(machine), machine)
            self.refused(machine)
            self.refused(outside(machine))

    def test_many_more(self):
        self.refused(ALL_ACTS)
        chance = random.Random(241)
        for number in range(60):
            machine = some_machine(chance, "cab", 8)
            if refusal_of(lambda: tell("plain", machine)) is not None:
                self.refused(machine)

    def test_words_that_do_unlike_acts_on_the_least_machine_though_it_is_not_handed_in(self):
        for number, machine in enumerate(FORTY_ONE):
            loose = loosened(machine, number)
            self.assertEqual(least(loose), machine)
            self.refused(loose)

    def test_more_than_forty_acts_but_not_of_the_least_machine(self):
        every = made(ALL_ACTS[0], ALL_ACTS[1], [True] * 8)
        self.assertEqual(classes_of(refusal_of(lambda: acts(every))), ["TooGreat"])
        self.paper(every)
        met = 0
        for number, machine in enumerate(FORTY_PLAIN * 3 + FORTY_OTHERS * 3):
            loose = loosened(machine, number)
            met += refusal_of(lambda: acts(loose)) is not None
            self.right_either_way("plain", loose)
            self.assertIs(tell("plain", loose)[0], machine in FORTY_PLAIN)
        self.assertGreater(met, 5)

    def test_the_words_are_the_askers_own(self):
        self.refused(ALL_ACTS).words.clear()
        self.refused(ALL_ACTS)

    def test_the_other_kinds_are_not_refused(self):
        for machine in FORTY_ONE + [ALL_ACTS]:
            for kind in ["first", "last", "within", "tally", "counts", "onward"]:
                self.right_either_way(kind, machine)


class RowsByHand(unittest.TestCase):
    """Nothing is promised of papers that were not told; but what reads them goes by the words of the document alone."""

    def right(self, letters, rows, longest):
        for number in range(len(rows)):
            reads = READERS["plain"](letters, (rows, [number]))
            for word in words_up_to(letters, longest):
                self.assertIs(number in rows_of_word(rows, word), reads(word), (rows, number, word))

    def test_each_part_by_itself(self):
        letters = "ab"
        nothing = (None, None, "ab", [])
        for row in [([(0, "a")], None, "", []), (None, [("b", 0)], "", []), (None, None, "b", []),
                    (None, None, "", [("a", 0, "a")]), ([], None, "", []), (None, [], "", []),
                    ([(1, "a"), (0, "b")], None, "", []), (None, [("b", 1), ("a", 0)], "", [])]:
            self.right(letters, [nothing, (None, None, "", []), row], 5)

    def test_rows_of_which_a_word_is_of_several_or_of_none(self):
        chance = random.Random(269)
        for number in range(60):
            letters = chance.choice(["ba", "cab"])
            rows = []
            for place in range(5):
                earlier = list(range(place))
                begins, ends, shuts = [[[chance.choice(earlier), chance.choice(letters), chance.choice(letters)]
                                        for name in range(chance.randrange(3))] if earlier else [] for part in range(3)]
                rows.append((chance.choice([None, [(i, a) for i, a, b in begins]]),
                             chance.choice([None, [(a, i) for i, a, b in ends]]),
                             chance.choice(["", "", letters[0], letters]), [(a, i, b) for i, a, b in shuts]))
            self.right(letters, rows, 5 if letters == "ba" else 4)


class Papers(unittest.TestCase):
    def test_what_a_word_begins_and_ends_with(self):
        machine = of("ab", "a.*b")
        paper = tell("plain", machine)[1]
        self.assertEqual([word for word in words_up_to("ab", 3) if says("plain", "ab", paper, word)],
                         ["ab", "aab", "abb"])

    def test_what_stands_in_a_word(self):
        paper = tell("plain", in_a_row("ba", 4))[1]
        self.assertEqual([word for word in words_up_to("ba", 3) if says("plain", "ba", paper, word)],
                         [word for word in words_up_to("ba", 3) if len(word) == 3])


if __name__ == "__main__":
    unittest.main()
