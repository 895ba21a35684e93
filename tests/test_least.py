"""First words, words that part rooms, least machines, and what two machines differ in (points 2, 3 and 10 to 13)."""

import inspect
import itertools
import unittest

from helper import blown_up, circle, classes_of, in_a_row, plain_fault, refusal_of, some_machines, walked, words_up_to
from roomalgebra.least import apart, first_words, least, parting
from roomalgebra.machines import made, room_after, takes

# Rooms 3 and 4 are alike, so are 1 and 2; to room 5 no word leads.
FOLDING = made("ab", [[2, 1], [3, 0], [4, 0], [4, 3], [3, 4], [0, 1]], [False, True, True, False, False, True])
SAMPLES = [(letters, machine) for letters in ["a", "ba", "cab"] for machine in some_machines(11, 40, letters, 5)]


def first_words_by_hand(machine):
    letters, ways, marks = machine
    told = {}
    for word in words_up_to(letters, len(ways) - 1):
        told.setdefault(walked(ways, letters, 0, word), word)
    return list(told.items())


def parting_by_hand(machine, one, two):
    letters, ways, marks = machine
    for word in words_up_to(letters, len(ways)):
        if marks[walked(ways, letters, one, word)] != marks[walked(ways, letters, two, word)]:
            return word
    return None


class FirstWords(unittest.TestCase):
    def test_one_room(self):
        for letters in ["a", "ba", "cab"]:
            for mark in [True, False]:
                self.assertEqual(first_words(made(letters, [[0] * len(letters)], [mark])), [(0, "")])

    def test_room_0_with_the_empty_word_stands_first(self):
        for letters, machine in SAMPLES:
            self.assertEqual(first_words(machine)[0], (0, ""))

    def test_many_machines(self):
        for letters, machine in SAMPLES:
            self.assertEqual(first_words(machine), first_words_by_hand(machine))

    def test_rooms_to_which_no_word_leads_are_not_told(self):
        machine = made("ab", [[2, 0], [0, 3], [2, 2], [1, 1]], [True, False, True, False])
        self.assertEqual(first_words(machine), [(0, ""), (2, "a")])
        self.assertEqual(first_words(made("a", [[0]] * 60, [True] * 60)), [(0, "")])

    def test_the_letters_order_and_not_the_alphabets(self):
        ways = [[3, 1, 2], [0, 0, 0], [0, 0, 0], [0, 0, 0]]
        marks = [False] * 4
        self.assertEqual(first_words(made("cab", ways, marks)), [(0, ""), (3, "c"), (1, "a"), (2, "b")])
        self.assertEqual(first_words(made("bca", ways, marks)), [(0, ""), (3, "b"), (1, "c"), (2, "a")])
        same_goal = [[1, 1], [2, 2], [2, 2]]
        self.assertEqual(first_words(made("ba", same_goal, [True] * 3)), [(0, ""), (1, "b"), (2, "bb")])
        self.assertEqual(first_words(made("ab", same_goal, [True] * 3)), [(0, ""), (1, "a"), (2, "aa")])

    def test_a_shorter_word_comes_first_whatever_its_signs(self):
        machine = made("ab", [[1, 2], [2, 2], [3, 3], [3, 3]], [False] * 4)
        self.assertEqual(first_words(machine), [(0, ""), (1, "a"), (2, "b"), (3, "ba")])

    def test_sixty_rooms_in_a_row(self):
        for letters in ["a", "ba", "cab"]:
            told = [(room, letters[0] * room) for room in range(60)]
            self.assertEqual(first_words(in_a_row(letters, 60)), told)
        by_b = made("ab", [[0, min(room + 1, 59)] for room in range(60)], [False] * 60)
        self.assertEqual(first_words(by_b), [(room, "b" * room) for room in range(60)])

    def test_kinds_and_a_new_list_each_time(self):
        machine = circle("ab", 5)
        told = first_words(machine)
        self.assertIs(type(told), list)
        for pair in told:
            self.assertEqual([type(pair), type(pair[0]), type(pair[1])], [tuple, int, str])
        kept = list(told)
        told.clear()
        self.assertEqual(first_words(machine), kept)
        self.assertEqual(machine, circle("ab", 5))


class Parting(unittest.TestCase):
    def test_two_unlike_rooms(self):
        machine = made("ab", [[1, 0], [2, 0], [2, 2]], [False, False, True])
        self.assertEqual(parting(machine, 0, 1), "a")
        self.assertEqual(parting(machine, 0, 2), "")
        self.assertEqual(parting(machine, 1, 2), "")

    def test_many_machines_each_two_rooms_both_ways_about(self):
        for letters, machine in SAMPLES:
            for one, two in itertools.product(range(len(machine[1])), repeat=2):
                self.assertEqual(parting(machine, one, two), parting_by_hand(machine, one, two))
                self.assertEqual(parting(machine, one, two), parting(machine, two, one))

    def test_a_room_and_itself(self):
        for rooms in [1, 7, 60]:
            machine = circle("ab", rooms)
            for room in range(rooms):
                self.assertIs(parting(machine, room, room), None)

    def test_two_alike_rooms(self):
        self.assertIs(parting(FOLDING, 1, 2), None)
        self.assertIs(parting(FOLDING, 2, 1), None)
        self.assertIs(parting(FOLDING, 3, 4), None)
        self.assertIs(parting(circle("ab", 60), 0, 58), None)

    def test_rooms_to_which_no_word_leads_are_parted_too(self):
        self.assertEqual(parting(FOLDING, 5, 0), "")
        self.assertIs(parting(FOLDING, 5, 1), parting_by_hand(FOLDING, 5, 1))
        apart_from_all = made("a", [[0], [2], [1]], [True, True, False])
        self.assertEqual(parting(apart_from_all, 0, 1), "a")
        self.assertEqual(parting(apart_from_all, 1, 2), "")

    def test_the_first_of_several_words(self):
        machine = made("ba", [[2, 2], [3, 3], [2, 2], [3, 3]], [False, False, False, True])
        self.assertEqual(parting(machine, 0, 1), "b")
        self.assertEqual(parting(made("ab", machine[1], machine[2]), 0, 1), "a")
        only_later = made("ab", [[2, 2], [2, 3], [2, 2], [3, 3]], [False, False, False, True])
        self.assertEqual(parting(only_later, 0, 1), "b")

    def test_sixty_rooms_in_a_row(self):
        machine = in_a_row("ba", 60)
        for one, two in [(0, 1), (0, 59), (57, 58), (58, 59), (20, 40)]:
            self.assertEqual(parting(machine, one, two), "b" * (59 - max(one, two)))

    def test_no_room(self):
        for rooms in [1, 4, 60]:
            machine = circle("ab", rooms)
            for bad in [-1, -rooms, rooms, rooms + 1, 10 ** 100 - 1, -(10 ** 100 - 1)]:
                for one, two in [(bad, 0), (0, bad), (bad, bad), (bad, rooms - 1), (rooms - 1, bad)]:
                    refusal = refusal_of(lambda: parting(machine, one, two))
                    self.assertEqual(classes_of(refusal), ["NoRoom"], (rooms, one, two))


class Least(unittest.TestCase):
    def test_many_machines(self):
        for letters, machine in SAMPLES:
            told = least(machine)
            self.assertIs(plain_fault(told), None)
            self.assertEqual(told[0], letters)
            for word in words_up_to(letters, 7 if len(letters) < 3 else 5):
                self.assertIs(takes(told, word), takes(machine, word), (machine, word))

    def test_rooms_to_which_no_word_leads_fall_away_and_alike_rooms_become_one(self):
        self.assertEqual(least(FOLDING), ("ab", ((1, 1), (2, 0), (2, 2)), (False, True, False)))
        self.assertEqual(least(made("a", [[0], [0], [1]], [True, False, False])), ("a", ((0,),), (True,)))
        self.assertEqual(least(made("ab", [[1, 2], [2, 0], [0, 1]], [False] * 3)), ("ab", ((0, 0),), (False,)))
        self.assertEqual(least(circle("ab", 60)), ("ab", ((1, 0), (0, 1)), (True, False)))

    def test_the_rooms_are_numbered_by_their_first_words(self):
        machine = made("ba", [[2, 1], [1, 1], [3, 0], [3, 3]], [False, True, False, False])
        self.assertEqual(least(machine), ("ba", ((1, 2), (3, 0), (2, 2), (3, 3)), (False, False, True, False)))
        for letters, machine in SAMPLES:
            told = least(machine)
            self.assertEqual([room for room, word in first_words(told)], list(range(len(told[1]))))

    def test_the_least_machine_of_a_least_machine_is_itself(self):
        for letters, machine in SAMPLES:
            self.assertEqual(least(least(machine)), least(machine))

    def test_equal_just_where_the_same_words_are_taken(self):
        for letters in ["a", "ba"]:
            machines = some_machines(3, 40, letters, 3)
            for one, two in itertools.combinations(machines, 2):
                same = all(takes(one, word) == takes(two, word) for word in words_up_to(letters, 6))
                self.assertIs(least(one) == least(two), same, (one, two))

    def test_machines_with_the_same_set_in_other_rooms(self):
        for letters in ["a", "ba", "cab"]:
            for number, machine in enumerate(some_machines(5, 20, letters, 19)):
                self.assertEqual(least(blown_up(machine, number)), least(machine))

    def test_sixty_rooms(self):
        for letters in ["a", "ba", "cab"]:
            self.assertEqual(least(in_a_row(letters, 60)), in_a_row(letters, 60))
        letters, ways, marks = in_a_row("ab", 60)
        behind_0 = list(range(59, 0, -1))
        about = [0] + behind_0
        turned_ways = [[about[goal] for goal in ways[about[room]]] for room in range(60)]
        turned_marks = [marks[about[room]] for room in range(60)]
        self.assertEqual(least(made(letters, turned_ways, turned_marks)), in_a_row("ab", 60))
        one_marked = made("ab", [[(room + 1) % 60, room] for room in range(60)], [room == 0 for room in range(60)])
        self.assertEqual(least(one_marked), one_marked)
        self.assertEqual(least(made("abc", [[7, 8, 9]] * 60, [True] * 60)), ("abc", ((0, 0, 0),), (True,)))

    def test_the_machine_stays_as_it_was(self):
        least(FOLDING)
        parting(FOLDING, 0, 1)
        apart(FOLDING, FOLDING)
        self.assertEqual(FOLDING[1], ((2, 1), (3, 0), (4, 0), (4, 3), (3, 4), (0, 1)))
        self.assertEqual(FOLDING[2], (False, True, True, False, False, True))


class Apart(unittest.TestCase):
    def test_many_machines_both_ways_about(self):
        for letters in ["a", "ba", "cab"]:
            for one, two in itertools.product(some_machines(7, 12, letters, 3), repeat=2):
                words = words_up_to(letters, 6)
                first = next((word for word in words if takes(one, word) != takes(two, word)), None)
                self.assertEqual(apart(one, two), first)
                self.assertEqual(apart(two, one), first)

    def test_the_same_words(self):
        self.assertIs(apart(FOLDING, FOLDING), None)
        self.assertIs(apart(FOLDING, least(FOLDING)), None)
        self.assertIs(apart(least(FOLDING), FOLDING), None)
        self.assertIs(apart(circle("ba", 60), circle("ba", 4)), None)

    def test_the_empty_word(self):
        every = made("ab", [[0, 0]], [True])
        none = made("ab", [[0, 0]], [False])
        self.assertEqual(apart(every, none), "")
        self.assertEqual(apart(none, every), "")

    def test_the_first_by_the_letters_order(self):
        none = made("ba", [[0, 0]], [False])
        one_sign = made("ba", [[1, 1], [2, 2], [2, 2]], [False, True, False])
        self.assertEqual(apart(one_sign, none), "b")
        self.assertEqual(apart(made("ab", one_sign[1], one_sign[2]), made("ab", none[1], none[2])), "a")

    def test_sixty_rooms_each(self):
        for letters in ["a", "ba", "cab"]:
            row = in_a_row(letters, 60)
            none = made(letters, row[1], [False] * 60)
            self.assertEqual(apart(row, none), letters[0] * 59)
            self.assertEqual(apart(none, row), letters[0] * 59)
        by_59 = made("a", [[(room + 1) % 59] for room in range(59)], [room == 58 for room in range(59)])
        by_60 = made("a", [[(room + 1) % 60] for room in range(60)], [room == 58 for room in range(60)])
        self.assertEqual(apart(by_59, by_60), "a" * 117)

    def test_other_letters(self):
        for one, two in itertools.permutations(["a", "b", "ab", "ba", "ac", "abc", "acb", "cab"], 2):
            refusal = refusal_of(lambda: apart(circle(one, 3), circle(two, 3)))
            self.assertEqual(classes_of(refusal), ["OtherLetters"], (one, two))


class Interface(unittest.TestCase):
    def test_arguments_bear_their_names(self):
        self.assertEqual(list(inspect.signature(first_words).parameters), ["machine"])
        self.assertEqual(list(inspect.signature(parting).parameters), ["machine", "one", "two"])
        self.assertEqual(list(inspect.signature(least).parameters), ["machine"])
        self.assertEqual(list(inspect.signature(apart).parameters), ["machine", "second"])

    def test_the_words_lead_where_it_is_told(self):
        for letters, machine in SAMPLES:
            for room, word in first_words(machine):
                self.assertEqual(room_after(machine, 0, word), room)


if __name__ == "__main__":
    unittest.main()
