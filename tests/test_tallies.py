"""The kinds tally and counts: papers, bars, and what papers say of words (points 2 to 6, 24, 28 and 29)."""

import itertools
import random
import unittest

from helper import (Verdicts, every_machine_of_two_rooms, in_a_row, in_place, loosened, of, set_of, some_machines,
                    words_up_to)
from roomalgebra.least import least
from roomalgebra.machines import made, room_after
from roomalgebra.tell import says, tell

KINDS = ["tally", "counts"]
SAMPLES = [("a", machine) for machine in some_machines(113, 60, "a", 5)]
SAMPLES += [("ba", machine) for machine in some_machines(127, 60, "ba", 3)]
SAMPLES += [("cab", machine) for machine in some_machines(131, 30, "cab", 2)]


def counting(letters, rows, is_marked):
    """A room for each tuple of numbers, one for each letter, told as point 28 tells them by these rows."""
    cells = list(itertools.product(*[range(low + rest) for low, rest in rows]))

    def after(cell, place):
        low, rest = rows[place]
        number = cell[place] + 1 if cell[place] + 1 < low + rest else low
        return cells.index(cell[:place] + (number,) + cell[place + 1:])

    ways = [[after(cell, place) for place in range(len(letters))] for cell in cells]
    return made(letters, ways, [is_marked(cell) for cell in cells])


def some_rows(chance, letters, least_low, most_low):
    """Rows for which counting makes at most eight rooms."""
    while True:
        rows = [(chance.randrange(least_low, most_low + 1), chance.randrange(1, 5)) for letter in letters]
        rooms = 1
        for low, rest in rows:
            rooms *= low + rest
        if rooms <= 8:
            return rows


def some_counting(chance, letters, most_low=3):
    rows = some_rows(chance, letters, 0, most_low)
    return counting(letters, rows, lambda cell: chance.randrange(2) == 0)


def table_by_hand(machine, sizes):
    """Of each tuple one word with so many of each letter is tried, the last letter standing first."""
    is_in = set_of(machine)
    cells = itertools.product(*[range(size) for size in sizes])
    return [cell for cell in cells
            if is_in("".join(letter * number for letter, number in reversed(list(zip(machine[0], cell)))))]


def row_by_hand(machine, letter):
    for low in range(len(machine[1]) + 1):
        for rest in range(1, 31):
            if in_place(machine, letter * low, letter * (low + rest)):
                return (low, rest)
    raise AssertionError("no row")


def swaps_matter(machine):
    is_in = set_of(machine)
    words = words_up_to(machine[0], 2 * len(machine[1]) if len(machine[0]) > 1 else 0)
    known = {}
    return any(known.setdefault("".join(sorted(word)), is_in(word)) != is_in(word) for word in words)


def tally_by_hand(machine):
    rows = [row_by_hand(machine, letter) for letter in machine[0]]
    return (rows, table_by_hand(machine, [low + rest for low, rest in rows]))


def counts_by_hand(machine):
    rests = [next((rest for rest in range(1, 31) if in_place(machine, "", letter * rest)), None)
             for letter in machine[0]]
    return None if None in rests else (rests, table_by_hand(machine, rests))


BY_HAND = {"tally": tally_by_hand, "counts": counts_by_hand}


class Told(Verdicts, unittest.TestCase):
    def by_hand(self, kind, machine):
        return None if swaps_matter(machine) else BY_HAND[kind](machine)


class EachKind(Told):
    def test_many_machines(self):
        for kind in KINDS:
            told = [(letters, self.right(kind, machine)) for letters, machine in SAMPLES]
            for letters in ["ba", "cab"]:
                self.assertIn((letters, True), told)
                self.assertIn((letters, False), told)

    def test_every_machine_of_two_rooms(self):
        for kind in KINDS:
            self.some_of_both(kind, every_machine_of_two_rooms("ba"))

    def test_every_set_over_one_letter_is_of_the_kind_tally(self):
        for machine in some_machines(137, 60, "b", 8):
            self.of_the_kind("tally", machine)

    def test_machines_that_are_not_least_give_the_same_paper(self):
        chance = random.Random(139)
        for letters in ["a", "ba", "cab"]:
            for number in range(20):
                machine = some_counting(chance, letters)
                paper = self.of_the_kind("tally", machine)
                self.assertEqual(self.of_the_kind("tally", loosened(machine, number)), paper)
                self.assertEqual(tell("tally", least(machine)), (True, paper))
                machine = some_counting(chance, letters, 0)
                paper = self.of_the_kind("counts", machine)
                self.assertEqual(self.of_the_kind("counts", loosened(machine, number)), paper)
                self.assertEqual(tell("counts", least(machine)), (True, paper))

    def test_every_word_and_no_word(self):
        for letters in ["a", "ba", "cab"]:
            many = len(letters)
            for rooms in [1, 8]:
                for mark in [True, False]:
                    machine = made(letters, in_a_row(letters, rooms)[1], [mark] * rooms)
                    table = [(0,) * many] if mark else []
                    self.assertEqual(self.of_the_kind("tally", machine), ([(0, 1)] * many, table))
                    self.assertEqual(self.of_the_kind("counts", machine), ([1] * many, table))

    def test_the_lists_are_the_askers_own_and_the_machine_stays(self):
        machine = counting("ba", [(0, 2), (0, 3)], lambda cell: cell in [(0, 0), (1, 2)])
        kept = (machine[0], tuple(machine[1]), tuple(machine[2]))
        for kind in KINDS:
            told, again = tell(kind, machine), tell(kind, machine)
            told[1][0].clear()
            told[1][1].clear()
            self.assertEqual(tell(kind, machine), again)
            self.assertNotEqual(told, again)
        self.assertEqual(machine, kept)



class Tally(Told):
    def test_rows_and_table(self):
        self.assertEqual(self.of_the_kind("tally", of("ab", "b*ab*")), ([(2, 1), (0, 1)], [(1, 0)]))
        self.assertEqual(self.of_the_kind("tally", of("ba", "b*ab*")), ([(0, 1), (2, 1)], [(0, 1)]))
        self.assertEqual(self.of_the_kind("tally", of("ab", "(b|ab*a)*")), ([(0, 2), (0, 1)], [(0, 0)]))
        self.assertEqual(self.of_the_kind("tally", of("ab", "ab|ba")), ([(2, 1), (2, 1)], [(1, 1)]))
        self.assertEqual(self.of_the_kind("tally", of("a", "a(aaa)*|aa")), ([(3, 3)], [(1,), (2,), (4,)]))

    def test_the_least_low_and_the_least_rest(self):
        self.assertEqual(self.of_the_kind("tally", of("b", "bb(bbb)*")), ([(0, 3)], [(2,)]))
        self.assertEqual(self.of_the_kind("tally", of("b", "1|bb(bbb)*")), ([(1, 3)], [(0,), (2,)]))
        self.assertEqual(self.of_the_kind("tally", of("b", "(bb)*|b(bb)*")), ([(0, 1)], [(0,)]))
        self.assertEqual(self.of_the_kind("tally", of("b", "bbbbbb")), ([(7, 1)], [(6,)]))

    def test_a_letter_that_changes_nothing(self):
        told = self.of_the_kind("tally", of("cab", "c*(ac*bc*|bc*ac*)"))
        self.assertEqual(told, ([(0, 1), (2, 1), (2, 1)], [(0, 1, 1)]))
        self.assertIs(says("tally", "cab", told, "cccaccbc"), True)

    def test_the_table_in_rising_order(self):
        told = self.of_the_kind("tally", counting("cab", [(1, 1), (0, 2), (0, 2)], lambda cell: cell != (1, 1, 1)))
        self.assertEqual(told[1], [(0, 0, 0), (0, 0, 1), (0, 1, 0), (0, 1, 1), (1, 0, 0), (1, 0, 1), (1, 1, 0)])

    def test_a_letter_that_matters_only_beside_another(self):
        self.assertEqual(self.of_the_kind("tally", of("ab", ".*b.*&(b|ab*a)*")), ([(0, 2), (1, 1)], [(0, 1)]))

    def test_sets_that_are_not_of_the_kind(self):
        for text in ["ab", "a*b*", ".*ab.*", ".*a", "a.*", "(ab)*", "(ab)*|(ba)*"]:
            self.not_of_the_kind("tally", of("ab", text))
        for text in ["(abc)*", "a*b*c*", ".*ca.*", "!(.*cb.*)"]:
            self.not_of_the_kind("tally", of("abc", text))

    def test_each_two_letters_that_may_not_be_swapped(self):
        for one, two in itertools.permutations("cab", 2):
            self.not_of_the_kind("tally", of("cab", f".*{one}{two}.*"))
            self.not_of_the_kind("tally", of("cab", f"{one}{two}"))

    def test_letters_that_may_not_be_swapped_behind_others_alone(self):
        ways = [[1, 2, 3], [1, 4, 3], [4, 2, 5], [3, 5, 3], [4, 4, 6], [6, 5, 5], [6, 6, 6]]
        machine = made("cab", ways, [room == 6 for room in range(7)])
        self.assertEqual(least(machine), machine)
        for one, two in itertools.combinations("cab", 2):
            self.assertEqual(room_after(machine, 0, one + two), room_after(machine, 0, two + one))
        for kind in KINDS:
            self.assertEqual(self.not_of_the_kind(kind, machine)[0], "swap")

    def test_many_machines_of_the_kind(self):
        chance = random.Random(151)
        for letters in ["a", "ba", "cab"]:
            for number in range(40):
                machine = some_counting(chance, letters)
                if len(machine[1]) <= 4:
                    self.assertIs(self.right("tally", machine), True)
                self.of_the_kind("tally", machine)

    def test_one_tuple_alone_in_the_table(self):
        chance = random.Random(157)
        for letters in ["a", "ba", "cab"]:
            for number in range(40):
                rows = some_rows(chance, letters, 1, 3)
                last = tuple(low + rest - 1 for low, rest in rows)
                told = self.of_the_kind("tally", counting(letters, rows, lambda cell: cell == (0,) * len(rows)))
                self.assertEqual(told, ([(1, 1)] * len(rows), [(0,) * len(rows)]))
                told = self.of_the_kind("tally", counting(letters, rows, lambda cell: cell == last))
                self.assertEqual(told, (rows, [last]))

    def test_the_longest_rows(self):
        ring = made("a", [[(room + 1) % 8] for room in range(8)], [room == 3 for room in range(8)])
        self.assertEqual(self.of_the_kind("tally", ring), ([(0, 8)], [(3,)]))
        self.assertEqual(self.of_the_kind("tally", in_a_row("a", 8)), ([(7, 1)], [(7,)]))
        lasso = made("a", [[1], [2], [3], [4], [5], [6], [7], [3]], [room in (2, 4) for room in range(8)])
        self.assertEqual(self.of_the_kind("tally", lasso), ([(3, 5)], [(2,), (4,)]))
        told = self.of_the_kind("tally", in_a_row("cab", 8))
        self.assertEqual(told[0], [(7, 1)] * 3)
        self.assertEqual(told[1], [cell for cell in itertools.product(range(8), repeat=3) if sum(cell) >= 7])


class Counts(Told):
    def test_rests_and_table(self):
        self.assertEqual(self.of_the_kind("counts", of("ab", "(b|ab*a)*")), ([2, 1], [(0, 0)]))
        self.assertEqual(self.of_the_kind("counts", of("ba", "(b|ab*a)*")), ([1, 2], [(0, 0)]))
        self.assertEqual(self.of_the_kind("counts", of("a", "a(aaa)*|aa(aaa)*")), ([3], [(1,), (2,)]))
        self.assertEqual(self.of_the_kind("counts", of("cab", "(..)*")),
                         ([2, 2, 2], [(0, 0, 0), (0, 1, 1), (1, 0, 1), (1, 1, 0)]))

    def test_the_least_rests(self):
        machine = counting("ba", [(0, 4), (0, 2)], lambda cell: (cell[0] + cell[1]) % 2 == 1)
        self.assertEqual(self.of_the_kind("counts", machine), ([2, 2], [(0, 1), (1, 0)]))

    def test_the_table_in_rising_order(self):
        told = self.of_the_kind("counts", counting("ba", [(0, 4), (0, 2)], lambda cell: cell != (3, 1)))
        self.assertEqual(told, ([4, 2], [(0, 0), (0, 1), (1, 0), (1, 1), (2, 0), (2, 1), (3, 0)]))

    def test_bars_of_two_words(self):
        swapped = made("ab", [[1, 2], [2, 1], [0, 0]], [True, False, False])
        self.assertEqual(self.not_of_the_kind("counts", swapped)[0], "swap")

    def test_bars_of_a_piece(self):
        for text in ["b*ab*", "1", "a|b", "ab|ba", "aa*", ".*a.*a.*"]:
            self.assertEqual(self.not_of_the_kind("counts", of("ab", text))[0], "stay")
        lasso = made("a", [[1], [2], [3], [4], [5], [6], [7], [3]], [room in (2, 4) for room in range(8)])
        self.assertEqual(self.not_of_the_kind("counts", lasso)[0], "stay")
        for low, rest in [(low, rest) for low in range(1, 8) for rest in range(1, 9 - low)]:
            for letters in ["a", "ba", "cab"]:
                rows = [(0, 1)] * (len(letters) - 1) + [(low, rest)]
                machine = counting(letters, rows, lambda cell: cell[-1] == low - 1)
                self.assertEqual(self.not_of_the_kind("counts", machine)[0], "stay")

    def test_sets_that_are_not_of_the_kind(self):
        for text in ["ab", "a*b*", ".*ab.*", ".*a", "(ab)*", "a*"]:
            self.not_of_the_kind("counts", of("ab", text))

    def test_many_machines_of_the_kind(self):
        chance = random.Random(163)
        for letters in ["a", "ba", "cab"]:
            for number in range(40):
                machine = some_counting(chance, letters, 0)
                paper = self.of_the_kind("counts", machine)
                if len(machine[1]) <= 4:
                    self.assertIs(self.right("counts", machine), True)
                self.assertEqual(tell("tally", machine), (True, ([(0, rest) for rest in paper[0]], paper[1])))

    def test_each_set_of_the_kind_is_of_the_kind_tally(self):
        chance = random.Random(167)
        for letters in ["a", "ba", "cab"]:
            for number in range(40):
                machine = some_counting(chance, letters)
                rows = self.of_the_kind("tally", machine)[0]
                self.assertIs(tell("counts", machine)[0], all(low == 0 for low, rest in rows))


class Papers(unittest.TestCase):
    def test_by_the_paper_alone(self):
        paper = ([(2, 3), (0, 1)], [(1, 0), (4, 0)])
        told = [times for times in range(12) if says("tally", "ab", paper, "ba" * times)]
        self.assertEqual(told, [1, 4, 7, 10])
        told = [times for times in range(12) if says("counts", "ba", ([1, 3], [(0, 2)]), "ba" * times)]
        self.assertEqual(told, [2, 5, 8, 11])

    def test_the_rows_go_by_the_letters_order(self):
        self.assertIs(says("tally", "ba", ([(1, 1), (3, 1)], [(1, 2)]), "aba"), True)
        self.assertIs(says("tally", "ab", ([(1, 1), (3, 1)], [(1, 2)]), "aba"), False)

    def test_long_words(self):
        self.assertIs(says("tally", "ab", ([(0, 7), (1, 3)], [(3, 2)]), "ab" * 500), True)
        self.assertIs(says("counts", "ab", ([7, 3], [(3, 2)]), "ab" * 500), True)
        self.assertIs(says("counts", "ab", ([7, 3], [(3, 2)]), "ab" * 499), False)



if __name__ == "__main__":
    unittest.main()
