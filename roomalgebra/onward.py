"""The kind onward: a paper or a bar for a machine's set, and what a paper says of a word."""

from roomalgebra.kinds import told_by
from roomalgebra.least import first_words, least, parting
from roomalgebra.roads import road


def tell_onward(machine):
    return told_by(least(machine), bar_of_onward, paper_of_onward)


def says_onward(letters, paper, word):
    return any([is_on(chain, word) for chain in paper])


# No letter of a stay is the step behind it, as that one leaves the room: so a piece goes as far as its letters do.
def is_on(chain, word):
    stays = chain[0]
    rest = word
    for stay, step in zip(stays, chain[1]):
        rest = rest.lstrip(stay)
        if not rest.startswith(step):
            return False
        rest = rest[1:]
    return rest.strip(stays[-1]) == ""


def bar_of_onward(machine):
    for room, word in first_words(machine):
        for other in range(room + 1, len(machine[1])):
            out = road(machine, room, other)
            back = road(machine, other, room)
            if out is not None and back is not None:
                return (word, out, back, parting(machine, room, other))
    return None


# Where there is no bar a room that was left is never come to again: so the steps end.
def paper_of_onward(machine):
    stays = [stay_in_room(machine, room) for room in range(len(machine[1]))]
    chains = []
    waiting = [([stays[0]], "", 0)]
    while len(waiting) > 0:
        longer = []
        for passed, steps, room in waiting:
            if machine[2][room]:
                chains.append((passed, steps))
            for letter, goal in zip(machine[0], machine[1][room]):
                if goal != room:
                    longer.append((passed + [stays[goal]], steps + letter, goal))
        waiting = longer
    return chains


def stay_in_room(machine, room):
    return "".join([letter for letter, goal in zip(machine[0], machine[1][room]) if goal == room])
