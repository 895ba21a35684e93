"""The kinds first, last and within: a paper or a bar for a machine's set, and what a paper says of a word."""

from roomalgebra.least import first_words, least
from roomalgebra.roads import parted, walked_rooms, walked_turned, way_back
from roomalgebra.walks import walked
from roomalgebra.words import number_of


def tell_first(machine):
    return told_by(least(machine), bar_of_first, paper_of_first)


def tell_last(machine):
    return told_by(least(machine), bar_of_last, paper_of_last)


# Words in which the same letters stand lead to rooms with the same lot beside them; so these must be marked alike.
def tell_within(machine):
    walk = walked_lots(least(machine))
    places = {}
    for place, state in enumerate(walk.things):
        known = places.setdefault(state[1], place)
        if walk.marks[known] != walk.marks[place]:
            return (False, in_and_out(walk, known, place))
    # The lots come up in the order of their first words, which are their letters, each once, in the letters' order.
    return (True, [lot for lot, place in places.items() if walk.marks[place]])


def says_first(letters, paper, word):
    return word in paper[0] or any([word.startswith(begin) for begin in paper[1]])


def says_last(letters, paper, word):
    return word in paper[0] or any([word.endswith(end) for end in paper[1]])


def says_within(letters, paper, word):
    return lot_in(letters, word) in paper


# The paper is made only where there is no bar: else some lists of it would never end.
def told_by(machine, bar_of, paper_of):
    bar = bar_of(machine)
    if bar is not None:
        return (False, bar)
    return (True, paper_of(machine))


# A room from which some words are in and some are not, and to which a word leads back, lets neither list end.
def bar_of_first(machine):
    for room, word in first_words(machine):
        walk = walked_rooms(machine, [room])
        back = way_back(walk)
        if back is not None and True in walk.marks and False in walk.marks:
            return (word, back, walk.words[walk.marks.index(True)], walk.words[walk.marks.index(False)])
    return None


# Where no word but the empty one leads two unlike rooms back to themselves, each long one leads all rooms to one.
def bar_of_last(machine):
    words = [word for room, word in first_words(machine)]
    for one in range(len(words)):
        for two in range(one + 1, len(words)):
            back = way_back(walked_rooms(machine, [one, two]))
            if back is not None:
                sides = parted(machine, words[one], words[two])
                return (sides[0], sides[1], back, sides[2])
    return None


# Where there is no bar the words are at last settled, and none that is settled goes on.
def paper_of_first(machine):
    just = []
    begins = []
    waiting = [("", 0)]
    while len(waiting) > 0:
        longer = []
        for word, room in waiting:
            settled = is_settled(machine, room)
            if machine[2][room] and settled:
                begins.append(word)
            elif machine[2][room]:
                just.append(word)
            if not settled:
                longer.extend([(word + letter, goal) for letter, goal in zip(machine[0], machine[1][room])])
        waiting = longer
    return (just, begins)


def paper_of_last(machine):
    walk = walked_turned(machine)
    paper = paper_of_first(least((walk.letters, walk.ways, walk.marks)))
    return (turned_about(walk.letters, paper[0]), turned_about(walk.letters, paper[1]))


def turned_about(letters, words):
    return sorted([word[::-1] for word in words], key=lambda word: number_of(letters, word))


# In a least machine no letter leaves a room from which all words are in or none is, as it has no other like it.
def is_settled(machine, room):
    return all([goal == room for goal in machine[1][room]])


def walked_lots(machine):
    letters = machine[0]

    def goals_of(state):
        row = machine[1][state[0]]
        return [(goal, lot_in(letters, state[1] + letter)) for letter, goal in zip(letters, row)]

    return walked(letters, (0, ""), goals_of, lambda state: machine[2][state[0]])


def lot_in(letters, word):
    return "".join([letter for letter in letters if letter in word])


def in_and_out(walk, one, two):
    if walk.marks[one]:
        return (walk.words[one], walk.words[two])
    return (walk.words[two], walk.words[one])
