"""Roads: rooms led on at once, ways back, words parted at last (what points 22 to 30 rest on)."""

import unittest

from helper import circle, in_a_row, some_machines, walked, words_up_to
from roomalgebra.least import least
from roomalgebra.machines import made, takes
from roomalgebra.roads import parted, road, walked_rooms, walked_turned, way_back

SAMPLES = [(letters, machine) for letters in ["a", "ba", "cab"] for machine in some_machines(173, 30, letters, 4)]


class RoomsAtOnce(unittest.TestCase):
    def test_each_thing_is_where_its_word_leads_the_rooms(self):
        for letters, machine in SAMPLES:
            rooms = [len(machine[1]) - 1, 0, 0]
            walk = walked_rooms(machine, rooms)
            for thing, word, mark in zip(walk.things, walk.words, walk.marks):
                self.assertEqual(thing, tuple(walked(machine[1], letters, room, word) for room in rooms))
                self.assertIs(mark, machine[2][thing[0]])

    def test_the_walk_breaks_off_just_where_it_holds_more_than_it_may(self):
        ring = circle("a", 8)
        lengths = [len(walked_rooms(ring, [0], most).things) for most in [1, 6, 7, 8, 9, None]]
        self.assertEqual(lengths, [2, 7, 8, 8, 8, 8])
        self.assertEqual(len(walked_rooms(ring, [0], 8).ways), 8)
        self.assertEqual(len(walked_rooms(ring, [0], 7).ways), 7)

    def test_from_behind(self):
        for letters, machine in SAMPLES:
            walk = walked_turned(machine)
            about = made(letters, walk.ways, walk.marks)
            for word in words_up_to(letters, 5):
                self.assertIs(takes(about, word), takes(machine, word[::-1]))


class WaysBack(unittest.TestCase):
    def test_the_first_word_but_the_empty_one(self):
        for letters, machine in SAMPLES:
            for room in range(len(machine[1])):
                words = [word for word in words_up_to(letters, len(machine[1])) if word]
                first = next((word for word in words if walked(machine[1], letters, room, word) == room), None)
                self.assertEqual(way_back(walked_rooms(machine, [room])), first)

    def test_of_a_pair(self):
        self.assertEqual(way_back(walked_rooms(circle("ba", 5), [0, 2])), "baa")
        self.assertIs(way_back(walked_rooms(in_a_row("ba", 5), [1, 4])), None)
        self.assertEqual(way_back(walked_rooms(made("a", [[1], [0]], [True, False]), [0, 1])), "aa")


class RoadsFromRoomToRoom(unittest.TestCase):
    def test_the_first_word(self):
        for letters, machine in SAMPLES:
            words = list(words_up_to(letters, len(machine[1]) - 1))
            for room in range(len(machine[1])):
                for other in range(len(machine[1])):
                    first = next((word for word in words if walked(machine[1], letters, room, word) == other), None)
                    self.assertEqual(road(machine, room, other), first)


class Parted(unittest.TestCase):
    def test_the_word_that_is_in_stands_first(self):
        for letters, machine in [(letters, least(machine)) for letters, machine in SAMPLES]:
            words = list(words_up_to(letters, 2))
            for one in words:
                for two in words:
                    if walked(machine[1], letters, 0, one) != walked(machine[1], letters, 0, two):
                        told = parted(machine, one, two)
                        self.assertEqual(sorted(told[:2]), sorted([one, two]))
                        self.assertEqual([takes(machine, word + told[2]) for word in told[:2]], [True, False])


if __name__ == "__main__":
    unittest.main()
