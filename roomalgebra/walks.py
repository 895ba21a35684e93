"""All to which words lead from a start, as a machine, each room with its first word."""


# Room k of the walk stands for things[k], to which words[k] leads first; the rooms lie in the order of these words.
class Walk:
    def __init__(self, letters, start):
        self.letters = letters
        self.things = [start]
        self.words = [""]
        self.ways = []
        self.marks = []


# The things found earliest are led on first, and the letters in their order: so each is found by its first word.
# With most the walk breaks off once it holds more things, as whoever asks so wants no more of them.
def walked(letters, start, goals_of, is_marked, most=None):
    walk = Walk(letters, start)
    rooms = {start: 0}
    while len(walk.ways) < len(walk.things):
        if most is not None and len(walk.things) > most:
            break
        room = len(walk.ways)
        goals = goals_of(walk.things[room])
        row = []
        for letter, goal in zip(letters, goals):
            if goal not in rooms:
                rooms[goal] = len(walk.things)
                walk.things.append(goal)
                walk.words.append(walk.words[room] + letter)
            row.append(rooms[goal])
        walk.ways.append(row)
        walk.marks.append(is_marked(walk.things[room]))
    return walk


def walked_machine(machine):
    def goals_of(room):
        return machine[1][room]

    def is_marked(room):
        return machine[2][room]

    return walked(machine[0], 0, goals_of, is_marked)
