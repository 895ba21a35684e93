"""The kind onward: chains, bars, and what chains say of words (points 2 to 4, 24 and 30)."""

import itertools
import random
import unittest

from helper import (Verdicts, circle, every_machine_of_two_rooms, in_a_row, lists_in, loosened, of, set_of,
                    some_machines, words_up_to)
from roomalgebra.joins import outside
from roomalgebra.least import least
from roomalgebra.machines import made
from roomalgebra.tell import says, tell

SAMPLES = [machine for letters, many in [("a", 30), ("ba", 80), ("cab", 40)]
           for machine in some_machines(197, many, letters, 3)]


def some_onward(chance, letters, rooms):
    """Rooms that lead to themselves and to later ones alone."""
    ways = [[chance.randrange(room, rooms) for letter in letters] for room in range(rooms)]
    return made(letters, ways, [chance.randrange(2) == 0 for room in range(rooms)])


def onward_by_hand(machine):
    """The chains, or None, by the words alone: words lead to one room where no tail that could matter parts them."""
    letters, ways, marks = machine
    is_in = set_of(machine)
    tails = list(words_up_to(letters, len(ways) - 1))

    def room(word):
        return tuple(is_in(word + tail) for tail in tails)

    longer = [word for word in words_up_to(letters, len(ways)) if word]
    for ahead, out in itertools.product(tails, longer):
        if room(ahead + out) != room(ahead) and any(room(ahead + out + back) == room(ahead) for back in longer):
            return None

    def stay(word):
        return "".join(letter for letter in letters if room(word + letter) == room(word))

    chains = []
    for steps in tails:
        begins = [steps[:at] for at in range(len(steps) + 1)]
        if is_in(steps) and all(room(one) != room(two) for one, two in zip(begins, begins[1:])):
            chains.append(([stay(begin) for begin in begins], steps))
    return chains


class Told(Verdicts, unittest.TestCase):
    def by_hand(self, kind, machine):
        return onward_by_hand(machine)

    def paper(self, machine):
        return self.of_the_kind("onward", machine)

    def bar(self, machine):
        return self.not_of_the_kind("onward", machine)


class Onward(Told):
    def test_chains_by_hand(self):
        self.assertEqual(self.paper(of("ab", "ab")), [(["", "", ""], "ab")])
        self.assertEqual(self.paper(of("ab", "b*a.*")), [(["b", "ab"], "a")])
        self.assertEqual(self.paper(of("ab", "a*b*")), [(["a"], ""), (["a", "b"], "b")])
        self.assertEqual(self.paper(of("abc", "(b|c)*a(a|c)*")), [(["bc", "ac"], "a")])
        self.assertEqual(self.paper(of("ab", "1")), [([""], "")])

    def test_the_letters_order_in_stays(self):
        self.assertEqual(self.paper(of("ba", "b*a.*")), [(["b", "ba"], "a")])
        self.assertEqual(self.paper(of("cab", "b*a.*")), [(["b", "cab"], "a")])
        self.assertEqual(self.paper(of("cab", "(a|c)*b(b|c)*")), [(["ca", "cb"], "b")])

    def test_the_order_of_steps(self):
        self.assertEqual([steps for stays, steps in self.paper(of("ba", "a|b|ab|1|aa|bbb"))],
                         ["", "b", "a", "ab", "aa", "bbb"])
        self.assertEqual([steps for stays, steps in self.paper(of("cab", "...|.|c"))],
                         ["c", "a", "b"] + ["".join(signs) for signs in itertools.product("cab", repeat=3)])

    def test_a_chain_for_each_word_of_steps_even_to_the_same_room(self):
        self.assertEqual(self.paper(of("ab", "..*")), [(["", "ab"], "a"), (["", "ab"], "b")])
        self.assertEqual(self.paper(of("ab", "...*")), [(["", "", "ab"], steps) for steps in ["aa", "ab", "ba", "bb"]])

    def test_steps_that_pass_marked_rooms(self):
        self.assertEqual(self.paper(of("a", "1|aa|aaa*")), [([""], ""), (["", "", "a"], "aa")])
        self.assertEqual(self.paper(of("ab", "b*|b*a")), [(["b"], ""), (["b", ""], "a")])

    def test_every_word_and_no_word(self):
        for letters in ["a", "ba", "cab"]:
            for rooms in [1, 8]:
                every = made(letters, circle(letters, rooms)[1], [True] * rooms)
                none = made(letters, circle(letters, rooms)[1], [False] * rooms)
                self.assertEqual(self.paper(every), [([letters], "")])
                self.assertEqual(self.paper(none), [])

    def test_many_machines(self):
        self.some_of_both("onward", SAMPLES)
        for letters in ["a", "ba", "cab"]:
            self.some_of_both("onward", [machine for machine in SAMPLES if machine[0] == letters])

    def test_every_machine_of_two_rooms(self):
        self.some_of_both("onward", every_machine_of_two_rooms("ba"))

    def test_many_machines_of_the_kind(self):
        chance = random.Random(199)
        for letters, most in [("a", 5), ("ba", 4), ("cab", 3)]:
            for number in range(25):
                self.assertIs(self.right("onward", some_onward(chance, letters, chance.randrange(1, most + 1))), True)

    def test_many_machines_of_the_kind_with_eight_rooms(self):
        chance = random.Random(211)
        for letters in ["a", "ba", "cab"]:
            for number in range(20):
                self.paper(some_onward(chance, letters, 8))

    def test_machines_that_are_not_least(self):
        chance = random.Random(223)
        for letters in ["a", "ba", "cab"]:
            for number in range(20):
                machine = some_onward(chance, letters, 4)
                paper = self.paper(machine)
                self.assertEqual(self.paper(loosened(machine, number)), paper)
                self.assertEqual(tell("onward", least(machine)), (True, paper))

    def test_rooms_that_lead_to_one_another_but_are_alike(self):
        machine = made("ab", [[1, 2], [0, 2], [3, 3], [2, 3]], [False, False, True, True])
        self.assertEqual(self.paper(machine), [(["a", "ab"], "b")])

    def test_rooms_to_which_no_word_leads_do_not_matter(self):
        machine = made("a", [[0], [2], [1]], [True, True, False])
        self.assertEqual(self.paper(machine), [(["a"], "")])

    def test_the_most_chains(self):
        for letters in ["a", "ba", "cab"]:
            row = in_a_row(letters, 8)
            for machine, lengths in [(row, [7]), (outside(row), list(range(7)))]:
                words = [word for word in words_up_to(letters, 7) if len(word) in lengths]
                told = tell("onward", machine)
                self.assertEqual(told, (True, [([""] * len(word) + [letters if len(word) == 7 else ""], word)
                                               for word in words]))
                self.assertIs(says("onward", letters, told[1], letters[0] * 1000), lengths == [7])
                self.assertIs(says("onward", letters, told[1], letters[-1] * 6), lengths != [7])

    def test_the_lists_are_the_askers_own_and_the_machine_stays(self):
        machine = of("ab", "b*a.*|b*")
        kept = repr(machine)
        told, again = tell("onward", machine), tell("onward", machine)
        for found in lists_in(told):
            found.clear()
        self.assertEqual(tell("onward", machine), again)
        self.assertEqual(repr(machine), kept)


class Bars(Told):
    def test_sets_that_are_not_of_the_kind(self):
        for text in ["(ab)*", ".*a", "(aa)*", ".*aa.*", "(a|bb)*", "b*a(bb)*", "!(.*aa.*)", "a*b(a|b)*a"]:
            self.bar(of("ab", text))
        for text in [".*c.*a", "(abc)*", "(ab|c)*", "c*(ab)*"]:
            self.bar(of("abc", text))

    def test_rooms_that_lead_to_one_another_far_from_the_first(self):
        ways = [[room + 1, 7] for room in range(5)] + [[6, 7], [5, 7], [7, 7]]
        self.assertEqual(self.bar(made("ba", ways, [room == 6 for room in range(8)])), ("bbbbb", "b", "b", ""))

    def test_a_long_way_back(self):
        ring = made("a", [[(room + 1) % 8] for room in range(8)], [room == 7 for room in range(8)])
        x, u, v, z = self.bar(ring)
        self.assertEqual((len(u) + len(v)) % 8, 0)
        for letters in ["ba", "cab"]:
            ways = [[(room + 1) % 8] + [room] * (len(letters) - 1) for room in range(8)]
            self.bar(made(letters, ways, [room == 3 for room in range(8)]))

    def test_the_first_words_in_or_the_second_ones(self):
        even = of("ab", "(b|ab*a)*")
        for machine, first in [(even, True), (outside(even), False)]:
            x, u, v, z = self.bar(machine)
            self.assertIs(set_of(machine)(x + z), first)
            self.assertIs(set_of(machine)(x + u + z), not first)


class Papers(unittest.TestCase):
    def test_by_the_paper_alone(self):
        paper = [(["a"], ""), (["a", "b"], "b")]
        for word in words_up_to("ab", 6):
            self.assertIs(says("onward", "ab", paper, word), "ba" not in word)

    def test_no_chain(self):
        for word in ["", "a", "ba"]:
            self.assertIs(says("onward", "ab", [], word), False)

    def test_the_empty_stay_lets_nothing_by(self):
        paper = [(["", ""], "a")]
        self.assertEqual([word for word in words_up_to("ab", 3) if says("onward", "ab", paper, word)], ["a"])
        self.assertEqual([word for word in words_up_to("ab", 3) if says("onward", "ab", [([""], "")], word)], [""])

    def test_a_word_that_ends_ahead_of_a_step(self):
        paper = [(["b", "b", "ba"], "aa")]
        self.assertEqual([word for word in ["", "b", "ba", "bab", "a", "aa", "bbabab"]
                          if says("onward", "ba", paper, word)], ["aa", "bbabab"])

    def test_long_words(self):
        paper = [(["b", "b", "b"], "aa")]
        self.assertIs(says("onward", "ba", paper, "b" * 500 + "a" + "b" * 498 + "a"), True)
        self.assertIs(says("onward", "ba", paper, "b" * 500 + "a" + "b" * 497 + "aa"), False)


if __name__ == "__main__":
    unittest.main()
