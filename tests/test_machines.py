"""How machines are made and where words lead in them (points 2, 3, 8 and 9)."""

import inspect
import unittest

from helper import circle, walked, words_up_to
from roomalgebra.errors import NoMachine, NoRoom, NoWord
from roomalgebra.machines import made, room_after, takes

# Room 0 waits for a, room 1 for b, room 2 has seen ab, room 3 is never left.
ABOUT_AB = ("ba", [[0, 1], [2, 1], [3, 1], [3, 3]], [False, False, True, True])


class Made(unittest.TestCase):
    def test_tuples_of_what_was_handed_in_as_lists(self):
        machine = made("ba", [[0, 1], [1, 0]], [False, True])
        self.assertEqual(machine, ("ba", ((0, 1), (1, 0)), (False, True)))
        self.assertIs(type(machine), tuple)
        self.assertIs(type(machine[0]), str)
        self.assertIs(type(machine[1]), tuple)
        self.assertIs(type(machine[2]), tuple)
        for row in machine[1]:
            self.assertIs(type(row), tuple)
            for number in row:
                self.assertIs(type(number), int)
        for mark in machine[2]:
            self.assertIs(type(mark), bool)

    def test_the_lists_stay_as_they_were_and_the_machine_too(self):
        first = [0, 1]
        ways = [first, [1, 0]]
        marks = [False, True]
        machine = made("ab", ways, marks)
        self.assertEqual(ways, [[0, 1], [1, 0]])
        self.assertIs(ways[0], first)
        self.assertEqual(marks, [False, True])
        first[0] = 1
        ways.append([0, 0])
        marks.clear()
        self.assertEqual(machine, ("ab", ((0, 1), (1, 0)), (False, True)))

    def test_refused_lists_stay_as_they_were(self):
        ways = [[0, 1], [1, 2]]
        marks = [False, True]
        self.assertRaises(NoMachine, made, "ab", ways, marks)
        self.assertEqual(ways, [[0, 1], [1, 2]])
        self.assertEqual(marks, [False, True])

    def test_one_room(self):
        self.assertEqual(made("a", [[0]], [True]), ("a", ((0,),), (True,)))
        self.assertEqual(made("xyz", [[0, 0, 0]], [False]), ("xyz", ((0, 0, 0),), (False,)))

    def test_sixty_rooms(self):
        for letters in ["a", "ba", "cab"]:
            machine = circle(letters, 60)
            self.assertEqual(len(machine[1]), 60)
            self.assertEqual(len(machine[2]), 60)
            self.assertEqual(machine[1][59][0], 0)

    def test_rooms_to_which_nothing_leads_are_kept(self):
        self.assertEqual(made("a", [[0], [0]], [True, True]), ("a", ((0,), (0,)), (True, True)))

    def test_no_row(self):
        self.assertRaises(NoMachine, made, "a", [], [])
        self.assertRaises(NoMachine, made, "a", [], [True])

    def test_not_as_many_truths_as_rows(self):
        self.assertRaises(NoMachine, made, "a", [[0]], [])
        self.assertRaises(NoMachine, made, "a", [[0]], [True, False])
        self.assertRaises(NoMachine, made, "ab", [[0, 1], [1, 1]], [True])
        self.assertRaises(NoMachine, made, "ab", [[0, 1], [1, 1]], [True, False, True])

    def test_a_row_with_more_or_fewer_numbers_than_letters(self):
        self.assertRaises(NoMachine, made, "a", [[]], [True])
        self.assertRaises(NoMachine, made, "a", [[0, 0]], [True])
        self.assertRaises(NoMachine, made, "ab", [[0, 1], [0]], [True, False])
        self.assertRaises(NoMachine, made, "ab", [[0, 1, 0], [0, 1]], [True, False])
        self.assertRaises(NoMachine, made, "abc", [[0, 0, 0], [0, 0]], [True, False])

    def test_a_number_that_is_no_rooms(self):
        for number in [-1, -2, 2, 3, 10 ** 100 - 1, -(10 ** 100 - 1)]:
            for ways in [[[number, 0], [0, 0]], [[0, number], [0, 0]], [[0, 0], [number, 0]], [[0, 0], [0, number]]]:
                self.assertRaises(NoMachine, made, "ab", ways, [True, False])
        self.assertRaises(NoMachine, made, "a", [[1]], [True])
        self.assertRaises(NoMachine, made, "a", [[60]] * 60, [True] * 60)

    def test_truths_are_no_numbers_and_numbers_no_truths(self):
        self.assertRaises(NoMachine, made, "a", [[False]], [True])
        self.assertRaises(NoMachine, made, "a", [[1], [True]], [True, False])
        self.assertRaises(NoMachine, made, "a", [[0]], [1])


class RoomAfter(unittest.TestCase):
    def test_from_each_room(self):
        letters, ways, marks = ABOUT_AB
        machine = made(letters, ways, marks)
        for room in range(4):
            for word in words_up_to(letters, 5):
                self.assertEqual(room_after(machine, room, word), walked(ways, letters, room, word))

    def test_the_letters_lead_in_the_order_in_which_they_stand(self):
        machine = made("cab", [[1, 2, 3], [0, 0, 0], [0, 0, 0], [0, 0, 0]], [False] * 4)
        self.assertEqual(room_after(machine, 0, "c"), 1)
        self.assertEqual(room_after(machine, 0, "a"), 2)
        self.assertEqual(room_after(machine, 0, "b"), 3)

    def test_signs_lead_from_the_first_to_the_last(self):
        machine = made("ab", [[1, 0], [1, 2], [2, 2]], [False, False, True])
        self.assertEqual(room_after(machine, 0, "ab"), 2)
        self.assertEqual(room_after(machine, 0, "ba"), 1)

    def test_the_empty_word_stays(self):
        machine = circle("ba", 60)
        for room in range(60):
            self.assertEqual(room_after(machine, room, ""), room)

    def test_a_word_cut_in_two_pieces(self):
        machine = made(*ABOUT_AB)
        word = "abbaabab"
        for room in range(4):
            for cut in range(len(word) + 1):
                between = room_after(machine, room, word[:cut])
                self.assertEqual(room_after(machine, between, word[cut:]), room_after(machine, room, word))

    def test_a_thousand_signs_in_sixty_rooms(self):
        machine = circle("ab", 60)
        self.assertEqual(room_after(machine, 7, "a" * 1000), 1007 % 60)
        self.assertEqual(room_after(machine, 7, "ab" * 500), 1507 % 60)

    def test_no_room(self):
        for rooms in [1, 4, 60]:
            machine = circle("ab", rooms)
            for room in [-1, -rooms, rooms, rooms + 1, 10 ** 100 - 1, -(10 ** 100 - 1)]:
                for word in ["", "ab"]:
                    self.assertRaises(NoRoom, room_after, machine, room, word)

    def test_no_word(self):
        machine = circle("ab", 3)
        for word in ["c", "abc", "cab", "A", " ", "a b", "~", "ab" * 499 + "a?"]:
            for room in range(3):
                self.assertRaises(NoWord, room_after, machine, room, word)

    def test_no_room_comes_ahead_of_no_word(self):
        machine = circle("ab", 3)
        for room in [-1, 3]:
            self.assertRaises(NoRoom, room_after, machine, room, "c")

    def test_a_truth_is_no_room(self):
        machine = circle("ab", 3)
        self.assertRaises(NoRoom, room_after, machine, True, "")
        self.assertRaises(NoRoom, room_after, machine, False, "")

    def test_the_room_is_a_whole_number(self):
        self.assertIs(type(room_after(circle("ab", 3), 1, "ab")), int)


class Takes(unittest.TestCase):
    def test_words_that_lead_from_room_0_to_a_marked_room(self):
        letters, ways, marks = ABOUT_AB
        machine = made(letters, ways, marks)
        for word in words_up_to(letters, 6):
            self.assertIs(takes(machine, word), marks[walked(ways, letters, 0, word)], word)

    def test_the_empty_word(self):
        self.assertIs(takes(made("a", [[1], [1]], [True, False]), ""), True)
        self.assertIs(takes(made("a", [[1], [1]], [False, True]), ""), False)

    def test_all_words_and_no_word(self):
        for word in words_up_to("ab", 4):
            self.assertIs(takes(made("ab", [[0, 0]], [True]), word), True)
            self.assertIs(takes(made("ab", [[0, 0]], [False]), word), False)

    def test_long_words(self):
        even = made("a", [[1], [0]], [True, False])
        self.assertIs(takes(even, "a" * 1000), True)
        self.assertIs(takes(even, "a" * 999), False)

    def test_no_word(self):
        for word in ["c", "abc", "cab", "B", "a" * 999 + "c"]:
            self.assertRaises(NoWord, takes, made("ab", [[0, 0]], [True]), word)


class Interface(unittest.TestCase):
    def test_arguments_bear_their_names(self):
        self.assertEqual(list(inspect.signature(made).parameters), ["letters", "ways", "marks"])
        self.assertEqual(list(inspect.signature(room_after).parameters), ["machine", "room", "word"])
        self.assertEqual(list(inspect.signature(takes).parameters), ["machine", "word"])

    def test_the_machine_stays_as_it_was(self):
        machine = made(*ABOUT_AB)
        room_after(machine, 1, "abba")
        takes(machine, "abba")
        self.assertEqual(machine, made(*ABOUT_AB))


if __name__ == "__main__":
    unittest.main()
