"""Acts and their table (points 2 to 4, 6, 22 and 23)."""

import inspect
import itertools
import random
import unittest

from helper import (ALL_ACTS, FORTY_ONE, JUST_FORTY, act_by_hand, acts_by_hand, circle, classes_of, great_fault,
                    in_a_row, loosened, refusal_of, some_machine, some_machines, words_up_to)
from roomalgebra import errors
from roomalgebra.acts import act_of, acts, table
from roomalgebra.machines import made

SAMPLES = [(letters, machine) for letters in ["a", "ba", "cab"] for machine in some_machines(61, 30, letters, 3)]


class ActOf(unittest.TestCase):
    def test_the_empty_word_changes_nothing(self):
        for rooms in range(1, 9):
            self.assertEqual(act_of(circle("ba", rooms), ""), tuple(range(rooms)))

    def test_one_letter(self):
        machine = made("ba", [[1, 2], [2, 0], [2, 1]], [True, False, False])
        self.assertEqual(act_of(machine, "b"), (1, 2, 2))
        self.assertEqual(act_of(machine, "a"), (2, 0, 1))
        self.assertEqual(act_of(made("ab", machine[1], machine[2]), "a"), (1, 2, 2))

    def test_two_letters_one_after_the_other(self):
        machine = made("ba", [[1, 2], [2, 0], [2, 1]], [True, False, False])
        self.assertEqual(act_of(machine, "ba"), (0, 1, 1))
        self.assertEqual(act_of(machine, "ab"), (2, 1, 2))

    def test_letters_that_do_not_stand_in_the_alphabets_order(self):
        ways = [[1, 2, 3], [1, 1, 1], [2, 2, 2], [0, 0, 0]]
        for letters in itertools.permutations("xca"):
            machine = made("".join(letters), ways, [True] * 4)
            told = [act_of(machine, letter) for letter in letters]
            self.assertEqual(told, [(1, 1, 2, 0), (2, 1, 2, 0), (3, 1, 2, 0)])

    def test_many_machines_and_words(self):
        for letters, machine in SAMPLES:
            for word in words_up_to(letters, 4):
                self.assertEqual(act_of(machine, word), act_by_hand(machine, word))

    def test_long_words(self):
        self.assertEqual(act_of(circle("a", 7), "a" * 1000), tuple((room + 1000) % 7 for room in range(7)))
        self.assertEqual(act_of(circle("cab", 8), "cab" * 333 + "c"), tuple((room + 1999) % 8 for room in range(8)))
        self.assertEqual(act_of(in_a_row("ba", 8), "ab" * 500), (7,) * 8)

    def test_joined_words_do_the_one_act_and_then_the_other(self):
        for letters, machine in SAMPLES:
            for one, two in itertools.product(words_up_to(letters, 2), repeat=2):
                ahead, behind = act_of(machine, one), act_of(machine, two)
                self.assertEqual(act_of(machine, one + two), tuple(behind[room] for room in ahead))

    def test_a_tuple_of_whole_numbers(self):
        told = act_of(circle("ab", 3), "ab")
        self.assertEqual([type(told)] + [type(room) for room in told], [tuple, int, int, int])

    def test_no_word(self):
        for letters, bad in [("ab", "c"), ("ab", "abc"), ("ab", "cab"), ("a", "A"), ("ba", "a b"), ("cab", " "),
                             ("ab", "~"), ("ab", "a" * 999 + "0"), ("b", "a"), ("cab", "abd")]:
            for rooms in [1, 8]:
                refusal = refusal_of(lambda: act_of(circle(letters, rooms), bad))
                self.assertEqual(classes_of(refusal), ["NoWord"], (letters, bad))


class Acts(unittest.TestCase):
    def test_many_machines(self):
        for letters, machine in SAMPLES:
            self.assertEqual(acts(machine), acts_by_hand(machine), machine)

    def test_one_room(self):
        for letters in ["a", "ba", "cab"]:
            self.assertEqual(acts(made(letters, [[0] * len(letters)], [True])), [("", (0,))])

    def test_one_letter(self):
        self.assertEqual(acts(made("b", [[1], [2], [0]], [True, False, False])),
                         [("", (0, 1, 2)), ("b", (1, 2, 0)), ("bb", (2, 0, 1))])
        self.assertEqual(acts(made("b", [[1], [2], [2]], [True, False, False])),
                         [("", (0, 1, 2)), ("b", (1, 2, 2)), ("bb", (2, 2, 2))])
        five_and_three = made("a", [[1], [2], [3], [4], [0], [6], [7], [5]], [True] * 8)
        self.assertEqual([word for word, act in acts(five_and_three)], ["a" * times for times in range(15)])

    def test_the_letters_order_and_not_the_alphabets(self):
        ways = [[1, 2], [1, 2], [1, 2]]
        self.assertEqual(acts(made("ba", ways, [True] * 3)), [("", (0, 1, 2)), ("b", (1, 1, 1)), ("a", (2, 2, 2))])
        same = made("ba", [[1, 1], [0, 0]], [True, True])
        self.assertEqual(acts(same), [("", (0, 1)), ("b", (1, 0))])

    def test_a_letter_that_changes_nothing_does_the_act_of_the_empty_word(self):
        self.assertEqual(acts(made("ab", [[0, 1], [1, 0]], [True, False])), [("", (0, 1)), ("b", (1, 0))])

    def test_rooms_to_which_no_word_leads_count_too(self):
        reached = made("a", [[0]], [True])
        more = made("a", [[0], [2], [3], [1]], [True] * 4)
        self.assertEqual(len(acts(reached)), 1)
        self.assertEqual(acts(more), [("", (0, 1, 2, 3)), ("a", (0, 2, 3, 1)), ("aa", (0, 3, 1, 2))])

    def test_alike_rooms_count_each_by_itself(self):
        self.assertEqual(len(acts(made("a", [[1], [2], [0]], [True] * 3))), 3)
        for number, (letters, machine) in enumerate(SAMPLES):
            loose = loosened(machine, number, 3)
            self.assertEqual(acts(loose), acts_by_hand(loose))

    def test_just_forty(self):
        for machine in JUST_FORTY:
            told = acts(machine)
            self.assertEqual(len(told), 40)
            self.assertEqual(len(set(act for word, act in told)), 40)
            for word, act in told:
                self.assertEqual(act, act_by_hand(machine, word))
            self.assertEqual(acts_by_hand(machine) if len(machine[0]) == 2 else told, told)

    def test_no_word_does_another_act(self):
        for machine in JUST_FORTY:
            known = [act for word, act in acts(machine)]
            chance = random.Random(5)
            for number in range(200):
                word = "".join(chance.choice(machine[0]) for sign in range(chance.randrange(50)))
                self.assertIn(act_by_hand(machine, word), known)

    def test_in_the_order_of_the_words(self):
        for machine in JUST_FORTY + [machine for letters, machine in SAMPLES]:
            words = [word for word, act in acts(machine)]
            self.assertEqual(words[0], "")
            keys = [(len(word), [machine[0].index(sign) for sign in word]) for word in words]
            self.assertEqual(keys, sorted(keys))

    def test_kinds_and_a_new_list_each_time(self):
        machine = circle("ab", 5)
        told = acts(machine)
        self.assertIs(type(told), list)
        for pair in told:
            self.assertEqual([type(pair), type(pair[0]), type(pair[1])], [tuple, str, tuple])
        kept = list(told)
        told.clear()
        self.assertEqual(acts(machine), kept)
        self.assertEqual(machine, circle("ab", 5))


class Table(unittest.TestCase):
    def test_many_machines(self):
        for machine in JUST_FORTY + [machine for letters, machine in SAMPLES]:
            known = acts(machine)
            places = {act: place for place, (word, act) in enumerate(known)}
            told = table(machine)
            self.assertEqual(len(told), len(known))
            for s, (ahead, act) in enumerate(known):
                row = tuple(places[act_by_hand(machine, ahead + behind)] for behind, other in known)
                self.assertEqual(told[s], row)

    def test_by_hand(self):
        self.assertEqual(table(made("a", [[1], [2], [0]], [True] * 3)), [(0, 1, 2), (1, 2, 0), (2, 0, 1)])
        resets = made("ba", [[1, 2], [1, 2], [1, 2]], [True] * 3)
        self.assertEqual(table(resets), [(0, 1, 2), (1, 1, 2), (2, 1, 2)])
        self.assertEqual(table(made("a", [[0]], [False])), [(0,)])

    def test_the_act_of_the_empty_word_changes_nothing(self):
        for machine in JUST_FORTY + [machine for letters, machine in SAMPLES]:
            told = table(machine)
            every = list(range(len(told)))
            self.assertEqual(list(told[0]), every)
            self.assertEqual([row[0] for row in told], every)

    def test_whatever_words_do_the_acts(self):
        for letters, machine in SAMPLES:
            places = {act: place for place, (word, act) in enumerate(acts(machine))}
            told = table(machine)
            for one, two in itertools.product(words_up_to(letters, 3), repeat=2):
                place = told[places[act_by_hand(machine, one)]][places[act_by_hand(machine, two)]]
                self.assertEqual(place, places[act_by_hand(machine, one + two)])

    def test_kinds_and_a_new_list_each_time(self):
        machine = circle("ab", 4)
        told = table(machine)
        self.assertIs(type(told), list)
        for row in told:
            self.assertEqual([type(row)] + [type(place) for place in row], [tuple, int, int, int, int])
        kept = list(told)
        told.clear()
        self.assertEqual(table(machine), kept)
        self.assertEqual(machine, circle("ab", 4))


class MoreThanForty(unittest.TestCase):
    def right(self, call, machine):
        refusal = refusal_of(lambda: call(machine))
        self.assertIs(great_fault(refusal, machine), None)
        self.assertIsInstance(refusal, errors.RoomError)
        return refusal

    def test_just_forty_one(self):
        for machine in FORTY_ONE:
            self.right(acts, machine)
            self.right(table, machine)

    def test_many_more(self):
        for machine in [ALL_ACTS, made("cab", ALL_ACTS[1], ALL_ACTS[2])]:
            self.right(acts, machine)
            self.right(table, machine)

    def test_a_group_of_forty_acts_and_one_room_more_that_counts(self):
        letters, ways, marks = JUST_FORTY[3]
        more = made(letters, list(ways) + [[7, 0, 7]], list(marks) + [True])
        self.right(acts, more)
        self.right(table, more)

    def test_rooms_to_which_no_word_leads(self):
        ways = [[room % 7 + 1, [2, 1, 3, 4, 5, 6, 7][room - 1], room] for room in range(1, 8)]
        apart_from_them = made("abc", [[0, 0, 0]] + ways, [True] * 8)
        self.right(acts, apart_from_them)
        self.right(table, apart_from_them)

    def test_many_machines_of_eight_rooms_in_good_time(self):
        chance = random.Random(17)
        refused = 0
        for number in range(200):
            machine = some_machine(chance, "cab", 8)
            if refusal_of(lambda: acts(machine)) is not None:
                self.right(acts, machine)
                refused += 1
        self.assertGreater(refused, 150)

    def test_the_words_are_the_askers_own(self):
        one = self.right(acts, ALL_ACTS)
        kept = list(one.words)
        one.words.clear()
        self.assertEqual(self.right(acts, ALL_ACTS).words, kept)
        self.assertEqual(len(self.right(table, ALL_ACTS).words), 41)


class Interface(unittest.TestCase):
    def test_arguments_bear_their_names(self):
        self.assertEqual(list(inspect.signature(act_of).parameters), ["machine", "word"])
        self.assertEqual(list(inspect.signature(acts).parameters), ["machine"])
        self.assertEqual(list(inspect.signature(table).parameters), ["machine"])


if __name__ == "__main__":
    unittest.main()
