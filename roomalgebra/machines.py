"""Machines of rooms, as tuples (letters, ways, marks), and where words lead in them."""

from roomalgebra.checks import is_whole, need_letters, need_word
from roomalgebra.errors import NoMachine, NoRoom


def made(letters, ways, marks):
    need_letters(letters)
    need_marks(ways, marks)
    for row in ways:
        need_row(letters, row, len(ways))
    return (letters, tuple([tuple(row) for row in ways]), tuple(marks))


def room_after(machine, room, word):
    letters = machine[0]
    ways = machine[1]
    need_room(machine, room)
    need_word(letters, word)
    here = room
    for sign in word:
        here = ways[here][letters.index(sign)]
    return here


def takes(machine, word):
    marks = machine[2]
    return marks[room_after(machine, 0, word)]


# A number below 0 must not pass: Python would count it from the last room.
def is_room(number, many):
    return is_whole(number) and 0 <= number < many


def need_room(machine, number):
    if not is_room(number, len(machine[1])):
        raise NoRoom("no room of the machine has that number")


def need_marks(ways, marks):
    if len(ways) == 0:
        raise NoMachine("a machine has at least one room")
    truths = [mark for mark in marks if isinstance(mark, bool)]
    if len(marks) != len(ways) or len(truths) != len(ways):
        raise NoMachine("there is not one truth for each row")


def need_row(letters, row, many):
    if len(row) != len(letters):
        raise NoMachine("a row has not one number for each letter")
    for number in row:
        if not is_room(number, many):
            raise NoMachine("a row leads to what is no room")
