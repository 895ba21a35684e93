"""Roads through a machine: of several rooms at once, from behind, back to a beginning, and apart at last."""

from roomalgebra.least import parting
from roomalgebra.machines import room_after, takes
from roomalgebra.walks import walked


# For each letter the rooms to which it leads from those told, one for one.
def lots_after(machine, rooms):
    rows = [machine[1][room] for room in rooms]
    return [[row[place] for row in rows] for place in range(len(machine[0]))]


def rooms_into(machine, place, rooms):
    return tuple([room for room, row in enumerate(machine[1]) if row[place] in rooms])


# The rooms are led on all at once: a thing of the walk tells, for each of them, where it has come to.
def walked_rooms(machine, rooms, most=None):
    def goals_of(state):
        return [tuple(goals) for goals in lots_after(machine, state)]

    def is_marked(state):
        return machine[2][state[0]]

    return walked(machine[0], tuple(rooms), goals_of, is_marked, most)


# A state holds the rooms from which what is read so far leads, from behind, to a marked room.
def walked_turned(machine):
    def goals_of(state):
        return [rooms_into(machine, place, state) for place in range(len(machine[0]))]

    start = tuple([room for room, mark in enumerate(machine[2]) if mark])
    return walked(machine[0], start, goals_of, lambda state: 0 in state)


# The first word but the empty one that leads back to where the walk began, or None.
def way_back(walk):
    for word, row in zip(walk.words, walk.ways):
        if 0 in row:
            return word + walk.letters[row.index(0)]
    return None


# The first word that leads from the one room to the other, or None.
def road(machine, room, other):
    walk = walked_rooms(machine, [room])
    if (other,) in walk.things:
        return walk.words[walk.things.index((other,))]
    return None


# Of two words that lead to unlike rooms: the one that is in with the tail behind it, the other one, and that tail.
def parted(machine, one, two):
    tail = parting(machine, room_after(machine, 0, one), room_after(machine, 0, two))
    if takes(machine, one + tail):
        return (one, two, tail)
    return (two, one, tail)
