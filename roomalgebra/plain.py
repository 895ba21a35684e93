"""The kind plain: a paper or a bar for a machine's set, and what a paper says of a word."""

from roomalgebra.acts import act_of, acts, table, walked_acts
from roomalgebra.ideals import below, groups_of, lots_of_acts
from roomalgebra.kinds import told_by
from roomalgebra.least import first_words, least, parting
from roomalgebra.machines import takes
from roomalgebra.pieces import rows_of_word


def tell_plain(machine):
    return told_by(least(machine), bar_of_plain, paper_of_plain)


def says_plain(letters, paper, word):
    rows = rows_of_word(paper[0], word)
    return any([goal in rows for goal in paper[1]])


# Where no group has a second member, every word, written often enough, does the same as written once more.
def bar_of_plain(machine):
    known = acts(machine)
    for once, members in groups_of(machine):
        others = [place for place in members if place != once]
        if len(others) > 0:
            return bar_around(machine, known[once][1], known[others[0]])
    return None


def bar_around(machine, once, other):
    piece = other[0]
    act = other[1]
    many = 2
    while act_of(machine, piece * many) != once:
        many = many + 1
    room = [goal == another for goal, another in zip(once, act)].index(False)
    return (first_words(machine)[room][1], piece, parting(machine, once[room], act[room]), many)


# What the rows ask of the acts, by their places in the table: behind and ahead tell what an act does with each letter
# behind it or ahead of it, under tells what lies below it, and order has the act of each row.
class Places:
    def __init__(self, machine):
        walk = walked_acts(machine)
        rows = table(machine)
        lots = lots_of_acts(machine)
        under = below(rows)
        self.letters = walk.letters
        self.words = walk.words
        self.behind = walk.ways
        self.ahead = [[rows[sign][place] for sign in walk.ways[0]] for place in range(len(rows))]
        self.right = [lot[0] for lot in lots]
        self.left = [lot[1] for lot in lots]
        self.under = under
        # What a row names has more below it than the row's own act, and must stand earlier.
        self.order = sorted(range(len(rows)), key=lambda place: -len(under[place]))


def paper_of_plain(machine):
    places = Places(machine)
    rows = [row_of_act(places, goal) for goal in places.order]
    goals = [number for number, place in enumerate(places.order) if takes(machine, places.words[place])]
    return (rows, goals)


# The row of an act has just the words that do it. Never and shuts let only such words by as the act is below, begins
# and ends only such as are right and left below the act; and where groups have one member no other act is all this.
def row_of_act(places, goal):
    begins = None
    ends = None
    # A word does nothing just where none of its letters does anything, however it begins and ends.
    if goal != 0:
        begins = steps_into(places, places.right, places.behind, goal)
        ends = [(letter, number) for number, letter in steps_into(places, places.left, places.ahead, goal)]
    never = [letter for letter, sign in zip(places.letters, places.behind[0]) if not is_below(places, goal, sign)]
    return (begins, ends, "".join(never), shuts_of(places, goal))


# The letters by which some act outside the goal's lot comes into it, with the number of that act's row.
def steps_into(places, lots, ways, goal):
    steps = []
    for number, place in enumerate(places.order):
        for letter, led in zip(places.letters, ways[place]):
            if lots[led] == lots[goal] and lots[place] != lots[goal]:
                steps.append((number, letter))
    return steps


# The goal is below what the act between does with the one letter or the other, but not with both.
def shuts_of(places, goal):
    shuts = []
    for number, place in enumerate(places.order):
        for letter, led in zip(places.letters, places.ahead[place]):
            for other, one, both in zip(places.letters, places.behind[place], places.behind[led]):
                if is_below(places, goal, led) and is_below(places, goal, one) and not is_below(places, goal, both):
                    shuts.append((letter, number, other))
    return shuts


def is_below(places, goal, place):
    return goal in places.under[place]
