"""Lots and groups of acts, and how acts lie below one another (points 2 to 4, 6, 22 and 31 to 34)."""

import inspect
import itertools
import random
import unittest

from helper import (ALL_ACTS, FORTY_ONE, JUST_FORTY, act_by_hand, circle, classes_of, every_machine_of_two_rooms,
                    great_fault, in_a_row, lists_in, of, refusal_of, some_machine, some_machines, words_up_to)
from roomalgebra import errors
from roomalgebra.acts import acts
from roomalgebra.ideals import groups_of, lead_over, lots_of_acts
from roomalgebra.machines import made

SAMPLES = [machine for letters in ["a", "ba", "cab"] for machine in some_machines(179, 30, letters, 3)]
SAMPLES += some_machines(181, 10, "a", 8)
# All twenty-seven acts on three rooms; the six of them that can be undone; and acts that lead all rooms to one.
ALL_ON_THREE = made("cab", [[1, 1, 0], [2, 0, 0], [0, 2, 2]], [True, False, False])
SHUFFLED = made("ba", [[1, 1], [2, 0], [0, 2]], [True, False, False])
RESETS = made("ba", [[1, 2], [1, 2], [1, 2]], [True, False, False])
# The machine of (ab)*, whose acts are those of the words "", a, b, aa, ab, ba.
TURNS = of("ab", "(ab)*")


def then(one, two):
    """What the one act and then the other do."""
    return tuple(two[room] for room in one)


def below_by_hand(every):
    """For each act those right below it, left below it and below it, straight from point 31."""
    right = {act: [then(act, other) for other in every] for act in every}
    left = {act: [then(other, act) for other in every] for act in every}
    whole = {act: set(then(other, led) for led in right[act] for other in every) for act in every}
    return [right, left, whole]


def lots_by_hand(machine):
    every = [act for word, act in acts(machine)]

    def numbers(below):
        lots = [frozenset(two for two in every if one in below[two] and two in below[one]) for one in every]
        known = list(dict.fromkeys(lots))
        return [known.index(lot) for lot in lots]

    return list(zip(*[numbers(below) for below in below_by_hand(every)]))


def groups_by_hand(machine):
    every = [act for word, act in acts(machine)]
    groups = []
    for place, e in enumerate(every):
        if then(e, e) == e:
            kept = [s for s in every if then(e, s) == s and then(s, e) == s]
            members = [s for s in kept if [t for t in kept if then(s, t) == e and then(t, s) == e]]
            groups.append((place, sorted(every.index(s) for s in members)))
    return groups


def each_call(one, two):
    return [lots_of_acts, groups_of, lambda machine: lead_over(machine, one, two)]


class MoreThanForty(unittest.TestCase):
    def right(self, call, machine):
        refusal = refusal_of(lambda: call(machine))
        self.assertIs(great_fault(refusal, machine), None)
        self.assertIsInstance(refusal, errors.RoomError)
        self.assertIsInstance(refusal, ValueError)
        return refusal

    def test_just_forty_one_and_many_more(self):
        for machine in FORTY_ONE + [ALL_ACTS]:
            for call in each_call("", machine[0]):
                self.right(call, machine)

    def test_rooms_to_which_no_word_leads_count_too(self):
        ways = [[room % 7 + 1, [2, 1, 3, 4, 5, 6, 7][room - 1], room] for room in range(1, 8)]
        for call in each_call("", ""):
            self.right(call, made("abc", [[0, 0, 0]] + ways, [True] * 8))

    def test_just_forty(self):
        for machine in JUST_FORTY:
            self.assertEqual(len(lots_of_acts(machine)), 40)
            self.assertGreater(len(groups_of(machine)), 0)
            self.assertIsNot(lead_over(machine, "", machine[0]), None)

    def test_machines_of_eight_rooms_over_three_letters_in_good_time(self):
        chance = random.Random(191)
        for number in range(100):
            machine = some_machine(chance, "cab", 8)
            for call in each_call("cab" * 333, "b" * 1000):
                if refusal_of(lambda: call(machine)) is not None:
                    self.right(call, machine)

    def test_the_words_are_the_askers_own(self):
        for call in each_call("a", "b"):
            self.right(call, ALL_ACTS).words.clear()
            self.right(call, ALL_ACTS)


class Lots(unittest.TestCase):
    def test_one_room(self):
        for letters in ["a", "ba", "cab"]:
            self.assertEqual(lots_of_acts(made(letters, [[0] * len(letters)], [True])), [(0, 0, 0)])

    def test_one_letter(self):
        self.assertEqual(lots_of_acts(circle("a", 3)), [(0, 0, 0)] * 3)
        self.assertEqual(lots_of_acts(in_a_row("a", 4)), [(0, 0, 0), (1, 1, 1), (2, 2, 2), (3, 3, 3)])
        lasso = made("a", [[1], [2], [3], [2]], [True] * 4)
        self.assertEqual(lots_of_acts(lasso), [(0, 0, 0), (1, 1, 1), (2, 2, 2), (2, 2, 2)])

    def test_all_acts_of_one_group(self):
        self.assertEqual(lots_of_acts(SHUFFLED), [(0, 0, 0)] * 6)
        self.assertEqual(lots_of_acts(JUST_FORTY[3]), [(0, 0, 0)] * 40)

    def test_right_and_left_are_not_changed_about(self):
        self.assertEqual(acts(RESETS), [("", (0, 1, 2)), ("b", (1, 1, 1)), ("a", (2, 2, 2))])
        self.assertEqual(lots_of_acts(RESETS), [(0, 0, 0), (1, 1, 1), (1, 2, 1)])
        firsts = of("ab", "a.*")
        self.assertEqual([word for word, act in acts(firsts)], ["", "a", "b"])
        self.assertEqual(lots_of_acts(firsts), [(0, 0, 0), (1, 1, 1), (2, 1, 1)])

    def test_whole_lots_of_several_right_and_left_ones(self):
        self.assertEqual([word for word, act in acts(TURNS)], ["", "a", "b", "aa", "ab", "ba"])
        self.assertEqual(lots_of_acts(TURNS), [(0, 0, 0), (1, 1, 1), (2, 2, 1), (3, 3, 2), (1, 2, 1), (2, 1, 1)])

    def test_all_acts_on_three_rooms(self):
        told = lots_of_acts(ALL_ON_THREE)
        self.assertEqual(len(told), 27)
        # by how many rooms are left they fall into whole lots of six, eighteen and three acts
        self.assertEqual(sorted([lot[2] for lot in told].count(number) for number in range(3)), [3, 6, 18])
        self.assertEqual([max(numbers) + 1 for numbers in zip(*told)], [1 + 3 + 1, 1 + 3 + 3, 3])

    def test_many_machines(self):
        for machine in SAMPLES + JUST_FORTY + [ALL_ON_THREE, SHUFFLED, RESETS, TURNS]:
            self.assertEqual(lots_of_acts(machine), lots_by_hand(machine), machine)

    def test_every_machine_of_two_rooms(self):
        for machine in every_machine_of_two_rooms("ba"):
            self.assertEqual(lots_of_acts(machine), lots_by_hand(machine), machine)

    def test_the_marks_do_not_matter(self):
        for letters, ways, marks in SAMPLES:
            every = made(letters, ways, [True] * len(ways))
            self.assertEqual(lots_of_acts(every), lots_of_acts((letters, ways, marks)))

    def test_kinds_and_a_new_list_each_time(self):
        told = lots_of_acts(TURNS)
        self.assertIs(type(told), list)
        for lots in told:
            self.assertEqual([type(lots)] + [type(number) for number in lots], [tuple, int, int, int])
        kept = list(told)
        told.clear()
        self.assertEqual(lots_of_acts(TURNS), kept)


class LeadOver(unittest.TestCase):
    def right(self, machine, one, two, is_below):
        told = lead_over(machine, one, two)
        if not is_below:
            self.assertIs(told, None, (machine, one, two))
            return
        self.assertEqual([type(told)] + [type(word) for word in told], [tuple, str, str], (machine, one, two))
        for word in told:
            self.assertLessEqual(len(word), 100)
            self.assertEqual(word.strip(machine[0]), "")
        ahead, behind = told
        self.assertEqual(act_by_hand(machine, ahead + one + behind), act_by_hand(machine, two), (machine, one, two))

    def all_right(self, machine):
        below = below_by_hand([act for word, act in acts(machine)])[2]
        for (one, act), (two, other) in itertools.product(acts(machine), repeat=2):
            self.right(machine, one, two, other in below[act])

    def test_each_two_acts(self):
        for machine in SAMPLES + [ALL_ON_THREE, RESETS, TURNS]:
            self.all_right(machine)

    def test_every_machine_of_two_rooms(self):
        for machine in every_machine_of_two_rooms("ba"):
            self.all_right(machine)

    def test_some_acts_of_just_forty(self):
        chance = random.Random(193)
        for machine in JUST_FORTY:
            below = below_by_hand([act for word, act in acts(machine)])[2]
            for number in range(150):
                (one, act), (two, other) = chance.sample(acts(machine), 2)
                self.right(machine, one, two, other in below[act])

    def test_words_that_are_not_the_first_ones_of_their_acts(self):
        for machine in SAMPLES[::6]:
            below = below_by_hand([act for word, act in acts(machine)])[2]
            for one, two in itertools.product(words_up_to(machine[0], 3), repeat=2):
                self.right(machine, one, two, act_by_hand(machine, two) in below[act_by_hand(machine, one)])

    def test_below_by_a_word_ahead_alone_behind_alone_or_both(self):
        self.assertEqual(lead_over(TURNS, "ab", "ba"), ("b", "a"))
        self.assertEqual(lead_over(RESETS, "b", "a"), ("", "a"))
        firsts = of("ab", "a.*")
        self.assertEqual(lead_over(firsts, "a", "b"), ("b", ""))
        self.assertIs(lead_over(TURNS, "aa", "ab"), None)
        self.assertIsNot(lead_over(TURNS, "ab", "aa"), None)

    def test_the_empty_word(self):
        for machine in SAMPLES:
            for word in words_up_to(machine[0], 2):
                self.right(machine, "", word, True)
        self.assertIs(lead_over(TURNS, "a", ""), None)
        self.right(SHUFFLED, "b", "", True)
        self.assertEqual(lead_over(TURNS, "", ""), ("", ""))

    def test_long_words(self):
        self.right(circle("a", 7), "a" * 1000, "a" * 999, True)
        self.right(TURNS, "ab" * 500, "ba" * 500, True)
        self.right(TURNS, "ab" * 500, "ab" * 250 + "ba" * 250, True)
        self.right(TURNS, "ab" * 250 + "ba" * 250, "ab" * 500, False)
        self.right(JUST_FORTY[3], "cab" * 333, "bac" * 333, True)

    def test_no_word(self):
        for machine in [TURNS, circle("ab", 5), made("ab", [[1, 1], [2, 0], [3, 2], [4, 3], [0, 4]], [True] * 5)]:
            for bad in ["c", "abc", "A", " ", "ab ", "~", "a" * 999 + "c"]:
                for one, two in [(bad, ""), ("", bad), (bad, bad), ("ab", bad), (bad, "ba")]:
                    refusal = refusal_of(lambda: lead_over(machine, one, two))
                    self.assertEqual(classes_of(refusal), ["NoWord"], (machine, one, two))

    def test_no_word_ahead_of_too_great(self):
        for one, two in [("d", "a"), ("a", "d"), ("", "ab0")]:
            self.assertEqual(classes_of(refusal_of(lambda: lead_over(ALL_ACTS, one, two))), ["NoWord"])
        self.assertEqual(classes_of(refusal_of(lambda: lead_over(ALL_ACTS, "a", "b"))), ["TooGreat"])
        self.assertEqual(classes_of(refusal_of(lambda: lead_over(ALL_ACTS, "", ""))), ["TooGreat"])


class Groups(unittest.TestCase):
    def test_one_room(self):
        for letters in ["a", "ba", "cab"]:
            self.assertEqual(groups_of(made(letters, [[0] * len(letters)], [False])), [(0, [0])])

    def test_one_letter(self):
        self.assertEqual(groups_of(circle("a", 3)), [(0, [0, 1, 2])])
        self.assertEqual(groups_of(in_a_row("a", 4)), [(0, [0]), (3, [3])])
        lasso = made("a", [[1], [2], [3], [2]], [True] * 4)
        self.assertEqual(groups_of(lasso), [(0, [0]), (2, [2, 3])])
        longer = made("a", [[1], [2], [3], [4], [2]], [True] * 5)
        self.assertEqual(groups_of(longer), [(0, [0]), (3, [2, 3, 4])])

    def test_all_acts_of_one_group(self):
        self.assertEqual(groups_of(SHUFFLED), [(0, list(range(6)))])
        self.assertEqual(groups_of(JUST_FORTY[3]), [(0, list(range(40)))])

    def test_groups_of_one_member_each(self):
        self.assertEqual(groups_of(RESETS), [(0, [0]), (1, [1]), (2, [2])])
        self.assertEqual(groups_of(TURNS), [(0, [0]), (3, [3]), (4, [4]), (5, [5])])

    def test_an_act_that_is_kept_by_a_once_but_cannot_be_undone_is_no_member(self):
        told = dict(groups_of(ALL_ON_THREE))
        self.assertEqual(len(told[0]), 6)
        self.assertEqual(sorted(len(members) for members in told.values()), [1, 1, 1] + [2] * 6 + [6])

    def test_many_machines(self):
        for machine in SAMPLES + JUST_FORTY + [ALL_ON_THREE, SHUFFLED, RESETS, TURNS]:
            self.assertEqual(groups_of(machine), groups_by_hand(machine), machine)

    def test_every_machine_of_two_rooms(self):
        for machine in every_machine_of_two_rooms("ba"):
            self.assertEqual(groups_of(machine), groups_by_hand(machine), machine)

    def test_members_are_rising_and_the_once_is_one_of_them(self):
        for machine in JUST_FORTY + SAMPLES:
            told = groups_of(machine)
            self.assertEqual([once for once, members in told], sorted(set(once for once, members in told)))
            for once, members in told:
                self.assertEqual(members, sorted(set(members)))
                self.assertIn(once, members)

    def test_no_act_is_of_two_groups(self):
        for machine in SAMPLES:
            every = [place for once, members in groups_of(machine) for place in members]
            self.assertEqual(len(every), len(set(every)))

    def test_kinds_and_new_lists_each_time(self):
        told = groups_of(ALL_ON_THREE)
        self.assertIs(type(told), list)
        for group in told:
            self.assertEqual([type(group), type(group[0]), type(group[1])], [tuple, int, list])
            self.assertTrue(all(type(place) is int for place in group[1]))
        self.assertEqual(len(set(id(found) for found in lists_in(told))), len(told) + 1)
        kept = groups_of(ALL_ON_THREE)
        for found in lists_in(told):
            found.clear()
        self.assertEqual(groups_of(ALL_ON_THREE), kept)


class Interface(unittest.TestCase):
    def test_arguments_bear_their_names(self):
        self.assertEqual(list(inspect.signature(lots_of_acts).parameters), ["machine"])
        self.assertEqual(list(inspect.signature(lead_over).parameters), ["machine", "one", "two"])
        self.assertEqual(list(inspect.signature(groups_of).parameters), ["machine"])

    def test_the_machine_stays(self):
        for machine in [TURNS, JUST_FORTY[0]]:
            kept = repr(machine)
            for call in each_call(machine[0], ""):
                call(machine)
            self.assertEqual(repr(machine), kept)


if __name__ == "__main__":
    unittest.main()
