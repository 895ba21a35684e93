"""The seven joins (points 2, 3, 14 and 15)."""

import inspect
import itertools
import unittest

from helper import (blown_up, circle, classes_of, in_a_row, joined_set, plain_fault, refusal_of, some_machines,
                    too_many_fault, words_up_to)
from roomalgebra.joins import again, both, either, less, outside, then, turned
from roomalgebra.least import apart, least
from roomalgebra.machines import made, takes

PAIRS = {"either": either, "both": both, "less": less, "then": then}
ALONE = {"outside": outside, "again": again, "turned": turned}
LONGEST = {1: 9, 2: 6, 3: 4}

EVEN_A = made("ab", [[1, 0], [0, 1]], [True, False])
ENDS_B = made("ab", [[0, 1], [0, 1]], [False, True])
JUST_A = made("ab", [[1, 2], [2, 2], [2, 2]], [False, True, False])
JUST_EMPTY = made("ab", [[1, 1], [1, 1]], [True, False])
NOTHING = made("ab", [[0, 0]], [False])
EVERYTHING = made("ab", [[0, 0]], [True])


def by_letters(many, most_rooms, seed):
    for letters in ["a", "ba", "cab"]:
        for machine in some_machines(seed, many, letters, most_rooms):
            yield letters, machine


def number_of_a(rooms, marked):
    """Takes the words whose number of a leaves one of the marked rests."""
    return made("ab", [[(room + 1) % rooms, room] for room in range(rooms)], [room in marked for room in range(rooms)])


def one_a_for_then(rooms):
    ways = [[(room + 1) % rooms, 0, room] for room in range(rooms)]
    return made("abc", ways, [room == rooms - 1 for room in range(rooms)])


def one_b_for_then(rooms):
    ways = [[room, (room + 1) % rooms, 1] for room in range(rooms)]
    return made("abc", ways, [room == rooms - 1 for room in range(rooms)])


class Joined(unittest.TestCase):
    def right(self, name, letters, machines):
        """Either the least machine of the set is told, or nine words and tails show that it has too many rooms."""
        call = PAIRS.get(name) or ALONE.get(name)
        is_in = joined_set(name, *machines)
        refusal = refusal_of(lambda: call(*machines))
        if refusal is not None:
            self.assertEqual(classes_of(refusal), ["TooMany"])
            self.assertIs(refusal.part, None)
            self.assertIs(too_many_fault(refusal, letters, is_in), None, (name, machines))
            return False
        told = call(*machines)
        self.assertEqual(told[0], letters)
        self.assertIs(plain_fault(told), None, (name, machines))
        self.assertLessEqual(len(told[1]), 8)
        for word in words_up_to(letters, LONGEST[len(letters)]):
            self.assertIs(takes(told, word), is_in(word), (name, machines, word))
        return True


class EachJoinByItsSet(Joined):
    def test_two_machines(self):
        for name in PAIRS:
            outcomes = []
            for letters in ["a", "ba", "cab"]:
                machines = some_machines(21, 7, letters, 3)
                for pair in itertools.product(machines, repeat=2):
                    outcomes.append(self.right(name, letters, pair))
            self.assertGreater(outcomes.count(True), 50, name)

    def test_one_machine(self):
        for name in ALONE:
            outcomes = [self.right(name, letters, [machine]) for letters, machine in by_letters(25, 4, 22)]
            self.assertGreater(outcomes.count(True), 30, name)

    def test_machines_of_eight_rooms(self):
        for letters in ["a", "ba", "cab"]:
            machines = [machine for machine in some_machines(23, 60, letters, 8) if len(machine[1]) == 8][:5]
            for name in ALONE:
                for machine in machines:
                    self.right(name, letters, [machine])
            for name in PAIRS:
                for one, two in zip(machines, machines[1:]):
                    self.right(name, letters, [one, two])


class SetsTold(unittest.TestCase):
    def test_either(self):
        self.assertEqual(either(JUST_A, JUST_EMPTY), ("ab", ((1, 2), (2, 2), (2, 2)), (True, True, False)))
        self.assertEqual(either(NOTHING, EVEN_A), EVEN_A)
        self.assertEqual(either(EVEN_A, outside(EVEN_A)), EVERYTHING)

    def test_both(self):
        self.assertEqual(both(EVERYTHING, EVEN_A), EVEN_A)
        self.assertEqual(both(JUST_A, JUST_EMPTY), NOTHING)
        self.assertEqual(both(JUST_A, outside(EVEN_A)), least(JUST_A))

    def test_less_is_not_the_same_turned_about(self):
        self.assertEqual(less(EVERYTHING, EVEN_A), outside(EVEN_A))
        self.assertEqual(less(EVEN_A, EVERYTHING), NOTHING)
        self.assertEqual(less(JUST_A, JUST_EMPTY), least(JUST_A))
        self.assertEqual(less(JUST_EMPTY, JUST_A), JUST_EMPTY)

    def test_then_with_empty_pieces(self):
        self.assertEqual(then(JUST_EMPTY, EVEN_A), EVEN_A)
        self.assertEqual(then(EVEN_A, JUST_EMPTY), EVEN_A)
        self.assertEqual(then(JUST_EMPTY, JUST_EMPTY), JUST_EMPTY)
        self.assertEqual(then(NOTHING, EVERYTHING), NOTHING)
        self.assertEqual(then(EVERYTHING, NOTHING), NOTHING)
        self.assertEqual(then(EVERYTHING, EVERYTHING), EVERYTHING)

    def test_then_is_not_the_same_turned_about(self):
        a_first = then(JUST_A, EVERYTHING)
        a_last = then(EVERYTHING, JUST_A)
        self.assertEqual([takes(a_first, word) for word in ["", "a", "ab", "ba"]], [False, True, True, False])
        self.assertEqual([takes(a_last, word) for word in ["", "a", "ab", "ba"]], [False, True, False, True])

    def test_again_always_has_the_empty_word(self):
        self.assertEqual(again(NOTHING), JUST_EMPTY)
        self.assertEqual(again(JUST_EMPTY), JUST_EMPTY)
        self.assertEqual(again(EVERYTHING), EVERYTHING)
        self.assertEqual(again(JUST_A), ("ab", ((0, 1), (1, 1)), (True, False)))
        self.assertIs(takes(again(ENDS_B), ""), True)
        self.assertIs(takes(again(ENDS_B), "a"), False)
        self.assertIs(takes(again(ENDS_B), "abbab"), True)

    def test_again_does_not_take_what_comes_back_to_the_beginning(self):
        two_a = made("a", [[1], [0]], [False, True])
        self.assertEqual(again(two_a), ("a", ((0,),), (True,)))
        back = made("ab", [[0, 1], [2, 2], [2, 2]], [False, True, False])
        self.assertEqual([takes(again(back), word) for word in ["", "a", "b", "ab", "ba"]],
                         [True, False, True, True, False])

    def test_turned(self):
        self.assertEqual(turned(EVEN_A), EVEN_A)
        self.assertEqual(turned(ENDS_B), ("ab", ((1, 2), (1, 1), (2, 2)), (False, False, True)))
        self.assertEqual(turned(turned(ENDS_B)), least(ENDS_B))
        self.assertEqual(turned(NOTHING), NOTHING)

    def test_outside(self):
        self.assertEqual(outside(NOTHING), EVERYTHING)
        self.assertEqual(outside(outside(JUST_A)), least(JUST_A))

    def test_the_letters_order_numbers_the_rooms(self):
        just_a = made("ba", [[2, 1], [2, 2], [2, 2]], [False, True, False])
        self.assertEqual(outside(just_a), ("ba", ((1, 2), (1, 1), (1, 1)), (True, True, False)))
        self.assertEqual(outside(JUST_A), ("ab", ((1, 2), (2, 2), (2, 2)), (True, False, True)))


class WhatIsHandedInNeedNotBeLeast(unittest.TestCase):
    def test_machines_with_the_same_set(self):
        for letters in ["a", "ba", "cab"]:
            machines = some_machines(31, 8, letters, 2)
            for number, one in enumerate(machines):
                large = blown_up(one, number)
                self.assertLessEqual(len(large[1]), 8)
                for call in ALONE.values():
                    self.assertEqual(call(large), call(one))
                for call, two in itertools.product(PAIRS.values(), machines):
                    self.assertEqual(call(large, two), call(one, two))
                    self.assertEqual(call(two, large), call(two, one))
                    self.assertEqual(call(large, blown_up(two, 1)), call(one, two))

    def test_what_is_handed_in_stays_as_it_was(self):
        for call in PAIRS.values():
            call(EVEN_A, ENDS_B)
        for call in ALONE.values():
            call(EVEN_A)
        self.assertEqual(EVEN_A, ("ab", ((1, 0), (0, 1)), (True, False)))
        self.assertEqual(ENDS_B, ("ab", ((0, 1), (0, 1)), (False, True)))


class JustEightRooms(Joined):
    def test_one_machine(self):
        row = in_a_row("ab", 8)
        self.assertEqual(outside(row), ("ab", row[1], tuple(not mark for mark in row[2])))
        self.assertEqual(turned(row), row)
        ring = number_of_a(8, [0])
        self.assertEqual(again(ring), ring)
        self.assertEqual(turned(ring), ring)

    def test_two_machines(self):
        ring = number_of_a(8, [0])
        self.assertEqual(then(ring, JUST_EMPTY), ring)
        self.assertEqual(either(ring, NOTHING), ring)
        self.assertEqual(less(ring, NOTHING), ring)
        two_by_four = made("ab", [[1, 2], [0, 3], [3, 4], [2, 5], [5, 6], [4, 7], [7, 0], [6, 1]],
                           [True] + [False] * 7)
        every_fourth_b = made("ab", [[room, (room + 1) % 4] for room in range(4)], [True, False, False, False])
        self.assertEqual(both(EVEN_A, every_fourth_b), two_by_four)

    def test_one_room_more_is_refused(self):
        for name, machines in [
            ("both", [number_of_a(3, [0]), made("ab", [[0, 1], [1, 2], [2, 0]], [True, False, False])]),
            ("either", [number_of_a(3, [0]), made("ab", [[0, 1], [1, 2], [2, 0]], [True, False, False])]),
            ("less", [made("ab", [[0, 1], [1, 2], [2, 0]], [True, False, False]), number_of_a(3, [0])]),
            ("then", [in_a_row("ab", 5), in_a_row("ab", 5)]),
        ]:
            is_refused = not self.right(name, "ab", machines)
            self.assertIs(is_refused, True, name)
        self.assertEqual(len(then(in_a_row("ab", 4), in_a_row("ab", 5))[1]), 8)

    def test_again_and_turned_of_few_rooms(self):
        third_from_behind = made("ab", [[1, 1], [2, 2], [3, 2], [3, 3]], [False, False, False, True])
        self.assertIs(self.right("turned", "ab", [third_from_behind]), True)
        fourth = made("ab", [[1, 1], [2, 2], [3, 3], [4, 5], [4, 4], [5, 5]], [False] * 4 + [True, False])
        self.assertIs(self.right("turned", "ab", [fourth]), False)
        pieces = made("ab", [[1, 2], [3, 2], [2, 4], [4, 0], [3, 4]], [False, False, False, False, True])
        self.right("again", "ab", [pieces])


class TooManyRooms(Joined):
    def test_each_join_is_refused_with_nine_words(self):
        seven = number_of_a(7, [0])
        third_b = made("ab", [[0, 1], [1, 2], [2, 0]], [True, False, False])
        for name in ["either", "both", "less"]:
            self.assertIs(self.right(name, "ab", [seven, third_b]), False)
        self.assertIs(self.right("then", "abc", [one_a_for_then(8), one_b_for_then(8)]), False)
        loose = made("ab", [[room + 1 if room < 7 else 0, 0 if room == 0 else (room + 1) % 8] for room in range(8)],
                     [room == 7 for room in range(8)])
        self.assertIs(self.right("again", "ab", [loose]), False)
        mixed = made("abc", [[(room + 1) % 8, [1, 0, 2, 3, 4, 5, 6, 7][room], 0 if room == 7 else room]
                             for room in range(8)], [room % 2 == 1 for room in range(8)])
        self.assertIs(self.right("turned", "abc", [mixed]), False)

    def test_long_words_where_one_letter_alone_counts(self):
        seven = made("a", [[(room + 1) % 7] for room in range(7)], [room == 0 for room in range(7)])
        eight = made("a", [[(room + 1) % 8] for room in range(8)], [room == 0 for room in range(8)])
        for name in ["either", "both", "less"]:
            self.assertIs(self.right(name, "a", [seven, eight]), False)
        self.assertIs(self.right("then", "a", [in_a_row("a", 8), in_a_row("a", 8)]), False)

    def test_the_lists_are_the_askers_own(self):
        machines = [in_a_row("ab", 8), in_a_row("ab", 8)]
        one = refusal_of(lambda: then(*machines))
        words, tails = list(one.words), list(one.tails)
        one.words.clear()
        one.tails.clear()
        two = refusal_of(lambda: then(*machines))
        self.assertEqual((two.words, two.tails), (words, tails))

    def test_many_machines_of_eight_rooms_in_good_time(self):
        for letters in ["ba", "cab"]:
            machines = [machine for machine in some_machines(41, 200, letters, 8) if len(machine[1]) == 8]
            for one, two in zip(machines, machines[1:]):
                for refusal in [refusal_of(lambda: then(one, two)), refusal_of(lambda: again(one)),
                                refusal_of(lambda: turned(one))]:
                    self.assertIn(classes_of(refusal), [[], ["TooMany"]])

    def test_the_greatest_lots_of_states_in_good_time(self):
        for number in range(30):
            refusal = refusal_of(lambda: then(one_a_for_then(8), one_b_for_then(8)))
            self.assertEqual(classes_of(refusal), ["TooMany"])


class OtherLetters(unittest.TestCase):
    def test_other_letters_and_the_same_in_another_order(self):
        for one, two in itertools.permutations(["a", "b", "ab", "ba", "ac", "abc", "acb", "cab"], 2):
            for call in PAIRS.values():
                refusal = refusal_of(lambda: call(circle(one, 3), circle(two, 3)))
                self.assertEqual(classes_of(refusal), ["OtherLetters"], (one, two))

    def test_ahead_of_too_many(self):
        for call in PAIRS.values():
            refusal = refusal_of(lambda: call(number_of_a(8, [0]), made("ba", number_of_a(7, [0])[1], [True] * 7)))
            self.assertEqual(classes_of(refusal), ["OtherLetters"])


class Interface(unittest.TestCase):
    def test_arguments_bear_their_names(self):
        for call in PAIRS.values():
            self.assertEqual(list(inspect.signature(call).parameters), ["machine", "second"])
        for call in ALONE.values():
            self.assertEqual(list(inspect.signature(call).parameters), ["machine"])

    def test_equal_machines_just_where_no_word_parts_them(self):
        self.assertEqual(either(EVEN_A, ENDS_B), either(ENDS_B, EVEN_A))
        self.assertIs(apart(either(EVEN_A, ENDS_B), either(ENDS_B, EVEN_A)), None)
        self.assertEqual(apart(either(EVEN_A, ENDS_B), both(EVEN_A, ENDS_B)), "")


if __name__ == "__main__":
    unittest.main()
