"""What words do to all rooms of a machine at once, and the table of what joined words do."""

from roomalgebra.errors import TooGreat
from roomalgebra.machines import room_after
from roomalgebra.roads import walked_rooms

MOST_ACTS = 40


def act_of(machine, word):
    return tuple([room_after(machine, room, word) for room in range(len(machine[1]))])


def acts(machine):
    walk = walked_acts(machine)
    return list(zip(walk.words, walk.things))


# The walk is a machine whose rooms are the acts: from that of s the word of t leads to what both do.
def table(machine):
    walk = walked_acts(machine)
    plan = (walk.letters, walk.ways, walk.marks)
    return [tuple([room_after(plan, place, word) for word in walk.words]) for place in range(len(walk.words))]


# Each act is found from an earlier one by one sign more, so that the first forty-one words have at most forty signs.
def walked_acts(machine):
    walk = walked_rooms(machine, list(range(len(machine[1]))), MOST_ACTS)
    if len(walk.words) > MOST_ACTS:
        raise TooGreat(walk.words[:MOST_ACTS + 1])
    return walk
