"""The first words of a machine, words that part its rooms, its one least form, and what two machines differ in."""

from roomalgebra.alike import folded, parting_word, rounds_of
from roomalgebra.checks import need_same_letters
from roomalgebra.machines import need_room
from roomalgebra.walks import walked_machine


def first_words(machine):
    walk = walked_machine(machine)
    return list(zip(walk.things, walk.words))


def parting(machine, one, two):
    need_room(machine, one)
    need_room(machine, two)
    ways = machine[1]
    rounds = rounds_of(ways, machine[2], len(ways))
    return parting_word(machine[0], ways, rounds, one, two)


def least(machine):
    walk = walked_machine(machine)
    rounds = rounds_of(walk.ways, walk.marks, len(walk.ways))
    return folded(walk, rounds[-1])


# The second machine's rooms are put behind those of the first: what parts both beginnings, just one machine takes.
def apart(machine, second):
    need_same_letters(machine, second)
    shift = len(machine[1])
    moved = [tuple([goal + shift for goal in row]) for row in second[1]]
    return parting((machine[0], machine[1] + tuple(moved), machine[2] + second[2]), 0, shift)
