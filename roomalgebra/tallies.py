"""The kinds tally and counts: a paper or a bar for a machine's set, and what a paper says of a word."""

from roomalgebra.acts import act_of
from roomalgebra.kinds import told_by
from roomalgebra.least import first_words, least, parting
from roomalgebra.machines import room_after, takes
from roomalgebra.roads import parted


def tell_tally(machine):
    return told_by(least(machine), swap_in, paper_of_tally)


def tell_counts(machine):
    return told_by(least(machine), bar_of_counts, paper_of_counts)


def says_tally(letters, paper, word):
    return told_as(letters, paper[0], word) in paper[1]


def says_counts(letters, paper, word):
    return says_tally(letters, ([(0, rest) for rest in paper[0]], paper[1]), word)


# Of the sets of the kind tally those are of this one in which each letter, written often enough, does nothing.
def bar_of_counts(machine):
    swap = swap_in(machine)
    if swap is not None:
        return swap
    return stay_in(machine)


# In a least machine the order of the letters never matters just where from no room two of them do it.
def swap_in(machine):
    for room, word in first_words(machine):
        for pair in pairs_of(machine[0]):
            if room_after(machine, room, pair) != room_after(machine, room, pair[::-1]):
                sides = parted(machine, word + pair, word + pair[::-1])
                return ("swap", sides[0] + sides[2], sides[1] + sides[2])
    return None


def pairs_of(letters):
    pairs = []
    for place, letter in enumerate(letters):
        pairs.extend([letter + other for other in letters[place + 1:]])
    return pairs


# Written low * rest times a letter does the same as twice that often, and moves a room where low is not 0.
def stay_in(machine):
    for letter, row in zip(machine[0], rows_of(machine)):
        piece = letter * (row[0] * row[1])
        act = act_of(machine, piece)
        for room, word in first_words(machine):
            if act[room] != room:
                return ("stay", word, piece, parting(machine, room, act[room]))
    return None


def paper_of_tally(machine):
    rows = rows_of(machine)
    return (rows, table_of(machine, rows))


# Each letter is told from 0 on here, so that its rest alone tells it.
def paper_of_counts(machine):
    paper = paper_of_tally(machine)
    return ([row[1] for row in paper[0]], paper[1])


def rows_of(machine):
    return [row_of(machine, letter) for letter in machine[0]]


# One word may be put in the place of another, anywhere, just where both do the same act on the least machine.
def row_of(machine, letter):
    known = []
    act = act_of(machine, "")
    while act not in known:
        known.append(act)
        act = act_of(machine, letter * len(known))
    low = known.index(act)
    return (low, len(known) - low)


def table_of(machine, rows):
    cells = cells_of([row[0] + row[1] for row in rows])
    return [cell for cell in cells if takes(machine, word_with(machine[0], cell))]


def cells_of(sizes):
    cells = [()]
    for size in sizes:
        longer = []
        for cell in cells:
            longer.extend([cell + (number,) for number in range(size)])
        cells = longer
    return cells


def word_with(letters, cell):
    return "".join([letter * number for letter, number in zip(letters, cell)])


def told_as(letters, rows, word):
    return tuple([reduced(row, word.count(letter)) for letter, row in zip(letters, rows)])


def reduced(row, times):
    if times < row[0]:
        return times
    return row[0] + (times - row[0]) % row[1]
