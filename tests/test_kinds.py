"""The kinds first, last and within: papers, bars, and what papers say of words (points 2 to 6 and 24 to 27)."""

import random
import unittest

from helper import (Verdicts, circle, every_machine_of_two_rooms, in_a_row, loosened, of, set_of, some_machines,
                    words_up_to)
from roomalgebra.errors import TooMany
from roomalgebra.joins import outside, turned
from roomalgebra.least import least
from roomalgebra.machines import made
from roomalgebra.tell import says, tell

SAMPLES = [(letters, machine) for letters in ["a", "ba", "cab"] for machine in some_machines(71, 50, letters, 3)]


def some_first(chance, letters, rooms):
    """Rooms that lead to later ones alone; of the two last, which are never left, one is marked."""
    ways = [[chance.randrange(room + 1, rooms) for letter in letters] for room in range(rooms - 2)]
    ways += [[rooms - 2] * len(letters), [rooms - 1] * len(letters)]
    return made(letters, ways, [chance.randrange(2) == 0 for room in range(rooms - 2)] + [True, False])


def some_lasts(chance, letters, many):
    found = []
    while len(found) < many:
        try:
            found.append(turned(some_first(chance, letters, chance.randrange(3, 7))))
        except TooMany:
            pass
    return found


def some_within(chance, letters):
    """A room for each lot of letters, as a number whose bits tell which letters have stood."""
    ways = [[lot | 1 << place for place in range(len(letters))] for lot in range(1 << len(letters))]
    return made(letters, ways, [chance.randrange(2) == 0 for lot in ways])


def sided_by_hand(machine, ahead):
    """The paper of first (or with ahead of last), by all words that could matter, or None."""
    letters, ways, marks = machine
    is_in = set_of(machine)
    words = list(words_up_to(letters, len(ways)))
    more = list(words_up_to(letters, len(ways) - 1))

    def around(word):
        return [is_in(tail + word if ahead else word + tail) for tail in more]

    def shorter(word):
        return [word[at:] if ahead else word[:at] for at in (range(1, len(word) + 1) if ahead else range(len(word)))]

    full = {word: all(around(word)) for word in words}
    if any(len(set(around(word))) > 1 for word in words if len(word) == len(ways)):
        return None
    sides = [word for word in words if full[word] and not any(full[other] for other in shorter(word))]
    just = [word for word in words if is_in(word) and not any(full[other] for other in [word] + shorter(word))]
    return (just, sides)


def within_by_hand(machine):
    letters = machine[0]
    is_in = set_of(machine)
    lots = {}
    for word in words_up_to(letters, 1 + len(letters) * len(machine[1])):
        lots.setdefault("".join(sorted(set(word), key=letters.index)), set()).add(is_in(word))
    if any(len(truths) > 1 for truths in lots.values()):
        return None
    return sorted([lot for lot, truths in lots.items() if truths == {True}],
                  key=lambda lot: (len(lot), [letters.index(letter) for letter in lot]))


class Told(Verdicts, unittest.TestCase):
    def by_hand(self, kind, machine):
        return within_by_hand(machine) if kind == "within" else sided_by_hand(machine, kind == "last")


class EachKind(Told):
    def test_many_machines(self):
        for kind in ["first", "last"]:
            self.some_of_both(kind, [machine for letters, machine in SAMPLES])
        for letters in ["a", "ba"]:
            self.some_of_both("within", some_machines(71, 60, letters, 3))
        self.some_of_both("within", some_machines(73, 40, "cab", 2))

    def test_every_machine_of_two_rooms(self):
        for kind in ["first", "last", "within"]:
            self.some_of_both(kind, every_machine_of_two_rooms("ba"))

    def test_machines_that_are_not_least_give_the_same_paper(self):
        chance = random.Random(79)
        for letters in ["a", "ba", "cab"]:
            firsts = [some_first(chance, letters, 4) for number in range(10)]
            for kind, machines in [("first", firsts), ("last", some_lasts(chance, letters, 10)),
                                   ("within", [some_within(chance, letters[:2]) for number in range(10)])]:
                for number, machine in enumerate(machines):
                    paper = self.of_the_kind(kind, machine)
                    self.assertEqual(self.of_the_kind(kind, loosened(machine, number)), paper)
                    self.assertEqual(tell(kind, least(machine)), (True, paper))

    def test_every_word_and_no_word(self):
        for letters in ["a", "ba", "cab"]:
            for rooms in [1, 8]:
                every = made(letters, circle(letters, rooms)[1], [True] * rooms)
                none = made(letters, circle(letters, rooms)[1], [False] * rooms)
                for kind in ["first", "last"]:
                    self.assertEqual(self.of_the_kind(kind, every), ([], [""]))
                    self.assertEqual(self.of_the_kind(kind, none), ([], []))
                self.assertEqual(self.of_the_kind("within", none), [])
        self.assertEqual(self.of_the_kind("within", made("ba", [[0, 0]], [True])), ["", "b", "a", "ba"])

    def test_the_lists_are_the_askers_own_and_the_machine_stays(self):
        for kind, machine in [("first", of("ba", "1|ab|b.*")), ("last", of("ba", "1|ab|.*bb")),
                              ("within", some_within(random.Random(3), "ba"))]:
            kept = (machine[0], tuple(machine[1]), tuple(machine[2]))
            told = tell(kind, machine)
            again = tell(kind, machine)
            for words in [told[1]] if kind == "within" else told[1]:
                words.clear()
            self.assertEqual(tell(kind, machine), again)
            self.assertNotEqual(told, again)
            self.assertEqual(machine, kept)



class First(Told):
    def test_begins_and_words_besides(self):
        self.assertEqual(self.of_the_kind("first", of("ab", "1|ab|b.*")), (["", "ab"], ["b"]))
        self.assertEqual(self.of_the_kind("first", of("ba", "1|ab|b.*|a")), (["", "a", "ab"], ["b"]))
        self.assertEqual(self.of_the_kind("first", of("ab", "a(a|bb).*")), ([], ["aa", "abb"]))
        self.assertEqual(self.of_the_kind("first", of("ab", "!(a*&..)&!(b|1)")),
                         self.of_the_kind("first", of("ab", "a|b..*|a(b|a.).*")))

    def test_finitely_many_words(self):
        for kind in ["first", "last"]:
            self.assertEqual(self.of_the_kind(kind, of("ba", "1")), ([""], []))
            self.assertEqual(self.of_the_kind(kind, of("ba", "ab|b|aab|ba")), (["b", "ba", "ab", "aab"], []))

    def test_all_words_but_finitely_many(self):
        self.assertEqual(self.of_the_kind("first", of("ba", "!a")), ([""], ["b", "ab", "aa"]))
        self.assertEqual(self.of_the_kind("first", of("ba", "...*")), ([], ["bb", "ba", "ab", "aa"]))

    def test_the_order_of_the_words_in_both_lists(self):
        told = self.of_the_kind("first", of("cab", "b|a|c|ab.*|ca.*|cb.*"))
        self.assertEqual(told, (["c", "a", "b"], ["ca", "cb", "ab"]))

    def test_a_begin_is_none_where_a_shorter_beginning_is_one(self):
        self.assertEqual(self.of_the_kind("first", of("ab", "a.*|ab.*|aba")), ([], ["a"]))
        self.assertEqual(self.of_the_kind("first", of("ab", "aa.*|ab.*|b")), (["b"], ["aa", "ab"]))
        self.assertEqual(self.of_the_kind("first", of("ab", "a|aa.*|ab.*|b")), (["b"], ["a"]))

    def test_one_letter(self):
        self.assertEqual(self.of_the_kind("first", of("b", "bb|bbbbb*")), (["bb"], ["bbbb"]))
        self.not_of_the_kind("first", of("b", "(bb)*"))

    def test_sets_that_are_not_of_the_kind(self):
        for text in ["a*", ".*b", "b*a.*", "(ab)*", "!(.*aa.*)", "ab*|b", "a(aa)*.", "bab*a.*"]:
            self.not_of_the_kind("first", of("ab", text))

    def test_a_room_that_is_never_left_but_by_words_that_are_in(self):
        self.assertEqual(self.not_of_the_kind("first", of("ab", "b*a.*"))[1:3], ("b", "a"))

    def test_many_machines_of_the_kind(self):
        chance = random.Random(89)
        for letters, rooms in [("a", 5), ("ba", 4), ("ba", 5), ("cab", 4)]:
            for number in range(20):
                self.assertIs(self.right("first", some_first(chance, letters, rooms)), True)

    def test_many_machines_of_the_kind_with_eight_rooms(self):
        chance = random.Random(97)
        for number in range(30):
            self.of_the_kind("first", some_first(chance, "cab", 8))

    def test_the_longest_words_and_the_most(self):
        for letters in ["a", "ba", "cab"]:
            longest = [word for word in words_up_to(letters, 7) if len(word) == 7]
            shorter = [word for word in words_up_to(letters, 6)]
            row = in_a_row(letters, 8)
            for kind in ["first", "last"]:
                self.assertEqual(tell(kind, row), (True, ([], longest)))
                self.assertEqual(tell(kind, outside(row)), (True, (shorter, [])))
                self.assertIs(says(kind, letters, ([], longest), letters[0] * 1000), True)


class Last(Told):
    def test_ends_and_words_besides(self):
        self.assertEqual(self.of_the_kind("last", of("ab", "1|ba|.*b")), (["", "ba"], ["b"]))
        self.assertEqual(self.of_the_kind("last", of("ba", ".*(aa|bba)")), ([], ["aa", "bba"]))
        self.assertEqual(self.of_the_kind("last", of("ab", ".*a..")), ([], ["aaa", "aab", "aba", "abb"]))

    def test_the_order_of_the_words_in_both_lists(self):
        told = self.of_the_kind("last", of("cab", "ac|bc|cc|.*(ab|ca|ba)"))
        self.assertEqual(told, (["cc", "ac", "bc"], ["ca", "ab", "ba"]))
        told = self.of_the_kind("last", of("ba", "!(b|a|1)"))
        self.assertEqual(told, ([], ["bb", "ba", "ab", "aa"]))

    def test_an_end_is_none_where_a_shorter_ending_is_one(self):
        self.assertEqual(self.of_the_kind("last", of("ab", ".*a|.*ba|aba")), ([], ["a"]))
        self.assertEqual(self.of_the_kind("last", of("ab", ".*aa|.*ba|b")), (["b"], ["aa", "ba"]))

    def test_sets_that_are_not_of_the_kind(self):
        for text in ["a*", "b.*", ".*ab*", "(ab)*", ".*aa.*", "a.*b", "(aa)*", "a*b"]:
            self.not_of_the_kind("last", of("ab", text))

    def test_many_machines_of_the_kind(self):
        chance = random.Random(101)
        for letters in ["a", "ba", "cab"]:
            for machine in some_lasts(chance, letters, 20):
                if len(machine[1]) <= 5:
                    self.right("last", machine)
                self.of_the_kind("last", machine)

    def test_the_one_kind_read_from_behind_is_the_other(self):
        chance = random.Random(107)
        machines = []
        for letters in ["a", "ba", "cab"]:
            machines += some_machines(103, 60, letters, 4)
            machines += [some_first(chance, letters, 5) for number in range(15)]
        for machine in machines:
            try:
                about = turned(machine)
            except TooMany:
                continue
            for kind, other in [("first", "last"), ("last", "first")]:
                one, two = tell(kind, machine), tell(other, about)
                self.assertIs(one[0], two[0], (kind, machine))
                for words, more in zip(*[told[1] for told in (one, two)]) if one[0] else []:
                    self.assertEqual(sorted(word[::-1] for word in words), sorted(more))

    def test_bars_of_rings_are_short_enough(self):
        for letters in ["a", "ba", "cab"]:
            for rooms in range(2, 9):
                ways = [[(room + 1) % rooms] + [room if room > 1 else 1 - room] * (len(letters) - 1)
                        for room in range(rooms)]
                for kind in ["first", "last"]:
                    self.not_of_the_kind(kind, made(letters, ways, [room == 0 for room in range(rooms)]))

    def test_a_long_way_back(self):
        ways = [[1, 2], [4, 3], [6, 4], [5, 5], [4, 4], [4, 6], [7, 0], [5, 1]]
        machine = made("ba", ways, [room in (1, 2, 7) for room in range(8)])
        self.assertGreater(len(self.not_of_the_kind("last", machine)[2]), 16)
        self.not_of_the_kind("first", machine)


class Within(Told):
    def test_lots_of_letters(self):
        self.assertEqual(self.of_the_kind("within", of("ab", ".*a.*")), ["a", "ab"])
        self.assertEqual(self.of_the_kind("within", of("ab", "aa*")), ["a"])
        self.assertEqual(self.of_the_kind("within", of("ab", ".*a.*&.*b.*")), ["ab"])
        self.assertEqual(self.of_the_kind("within", of("abc", "!(.*b.*)")), ["", "a", "c", "ac"])

    def test_the_empty_lot(self):
        self.assertEqual(self.of_the_kind("within", of("ab", "1")), [""])
        self.assertEqual(self.of_the_kind("within", of("ab", "..*")), ["a", "b", "ab"])
        self.assertEqual(self.of_the_kind("within", of("a", "1")), [""])
        self.assertEqual(self.of_the_kind("within", of("a", "aa*")), ["a"])

    def test_the_letters_order(self):
        self.assertEqual(self.of_the_kind("within", of("ba", ".*a.*")), ["a", "ba"])
        self.assertEqual(self.of_the_kind("within", of("cab", ".*")), ["", "c", "a", "b", "ca", "cb", "ab", "cab"])
        self.assertIs(says("within", "cab", ["cb"], "bbcbc"), True)
        self.assertIs(says("within", "cab", ["cb"], "bbcbca"), False)

    def test_sets_that_are_not_of_the_kind(self):
        for text in ["a", "ab|ba", ".*ab.*", "(aa)*", ".*a", "a.*", ".*a.*a.*"]:
            self.not_of_the_kind("within", of("ab", text))
        self.not_of_the_kind("within", of("abc", ".*a.*b.*c.*"))

    def test_a_bar_that_needs_long_words(self):
        for letters in ["a", "ba", "cab"]:
            self.not_of_the_kind("within", in_a_row(letters, 8))
            self.not_of_the_kind("within", outside(in_a_row(letters, 8)))
        sevenfold = made("cab", [[room, room, min(room + 1, 7)] for room in range(8)], [room < 7 for room in range(8)])
        self.assertEqual(self.not_of_the_kind("within", sevenfold), ("b", "bbbbbbb"))

    def test_many_machines_of_the_kind(self):
        chance = random.Random(109)
        for letters in ["a", "ba", "cab"]:
            for number in range(40):
                machine = some_within(chance, letters)
                paper = self.of_the_kind("within", machine)
                lots = [tuple(sorted(lot)) for lot in paper]
                wanted = [tuple(sorted(letters[place] for place in range(len(letters)) if lot >> place & 1))
                          for lot, mark in enumerate(machine[2]) if mark]
                self.assertEqual(sorted(lots), sorted(wanted))
                self.assertTrue(all(list(lot) == sorted(lot, key=letters.index) for lot in paper))
                keys = [(len(lot), [letters.index(letter) for letter in lot]) for lot in paper]
                self.assertEqual(keys, sorted(keys))


class Papers(unittest.TestCase):
    def test_by_the_paper_alone(self):
        self.assertIs(says("first", "ab", (["", "ab"], ["b"]), "ab"), True)
        self.assertIs(says("first", "ab", (["", "ab"], ["b"]), "aba"), False)
        self.assertIs(says("first", "ab", (["", "ab"], ["b"]), "baaa"), True)
        self.assertIs(says("first", "ab", (["", "ab"], ["b"]), "aab"), False)
        self.assertIs(says("last", "ab", (["", "ba"], ["b"]), "ba"), True)
        self.assertIs(says("last", "ab", (["", "ba"], ["b"]), "aba"), False)
        self.assertIs(says("last", "ab", (["", "ba"], ["b"]), "aaab"), True)
        self.assertIs(says("last", "ab", (["", "ba"], ["b"]), "baa"), False)
        self.assertIs(says("within", "ab", [""], ""), True)
        self.assertIs(says("within", "ab", [""], "a"), False)

    def test_long_words(self):
        self.assertIs(says("first", "ab", ([], ["ab"]), "ab" * 500), True)
        self.assertIs(says("last", "ab", ([], ["ab"]), "ba" * 500), False)
        self.assertIs(says("within", "abc", ["ac"], "ac" * 500), True)
        self.assertIs(says("within", "abc", ["ac"], "ac" * 499 + "b"), False)



if __name__ == "__main__":
    unittest.main()
