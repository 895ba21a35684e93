"""Joins of machines, each told as the least machine of its set, where that has at most eight rooms."""

from roomalgebra.alike import first_rooms, folded, many_lots, parting_word, rounds_of
from roomalgebra.checks import need_same_letters
from roomalgebra.errors import TooMany
from roomalgebra.least import least
from roomalgebra.roads import lots_after, walked_turned
from roomalgebra.walks import walked, walked_machine

MOST_ROOMS = 8


def either(machine, second):
    return paired(machine, second, lambda one, two: one or two)


def both(machine, second):
    return paired(machine, second, lambda one, two: one and two)


def less(machine, second):
    return paired(machine, second, lambda one, two: one and not two)


def outside(machine):
    marks = [not mark for mark in machine[2]]
    return told(walked_machine((machine[0], machine[1], marks)))


# Beside the room of the first machine go all rooms where the second one may be, whatever the cut was.
def then(machine, second):
    need_same_letters(machine, second)
    ahead = least(machine)
    behind = least(second)

    def entered(room, rooms):
        return (room, lot_of(rooms + [0] if ahead[2][room] else rooms))

    def goals_of(state):
        goals = lots_after(behind, state[1])
        return [entered(room, rooms) for room, rooms in zip(ahead[1][state[0]], goals)]

    return told(walked(ahead[0], entered(0, []), goals_of, lambda state: has_marked(behind, state[1])))


# A state tells whether a piece may end here, and all rooms where the machine may be within a piece.
def again(machine):
    piece = least(machine)

    def entered(rooms):
        if has_marked(piece, rooms):
            return (True, lot_of(rooms + [0]))
        return (False, lot_of(rooms))

    def goals_of(state):
        return [entered(rooms) for rooms in lots_after(piece, state[1])]

    return told(walked(piece[0], (True, (0,)), goals_of, lambda state: state[0]))


def turned(machine):
    return told(walked_turned(least(machine)))


def paired(machine, second, is_wanted):
    need_same_letters(machine, second)

    def goals_of(pair):
        return list(zip(machine[1][pair[0]], second[1][pair[1]]))

    def is_marked(pair):
        return is_wanted(machine[2][pair[0]], second[2][pair[1]])

    return told(walked(machine[0], (0, 0), goals_of, is_marked))


# In order and each once, so that equal lots of rooms are equal tuples.
def lot_of(rooms):
    return tuple(sorted(set(rooms)))


def has_marked(machine, rooms):
    return any([machine[2][room] for room in rooms])


def told(walk):
    rounds = rounds_of(walk.ways, walk.marks, MOST_ROOMS)
    lots = rounds[-1]
    if many_lots(lots) <= MOST_ROOMS:
        return folded(walk, lots)
    rooms = first_rooms(lots)[:MOST_ROOMS + 1]
    raise TooMany([walk.words[room] for room in rooms], tails_of(walk, rounds, rooms), None)


def tails_of(walk, rounds, rooms):
    tails = []
    for i, one in enumerate(rooms):
        for j in range(i + 1, len(rooms)):
            tails.append((i, j, parting_word(walk.letters, walk.ways, rounds, one, rooms[j])))
    return tails
