"""Lots of alike rooms, found round by round, and the words that part rooms."""


# After round k two rooms bear the same number just where no word of at most k signs parts them. It ends where a
# round parts no more, or where there are more than most lots: then so few rounds suffice that their words are short.
def rounds_of(ways, marks, most):
    rounds = [numbered(marks)]
    while many_lots(rounds[-1]) <= most:
        lots = rounds[-1]
        finer = numbered([(lots[room], tuple([lots[goal] for goal in row])) for room, row in enumerate(ways)])
        if finer == lots:
            break
        rounds.append(finer)
    return rounds


# Numbered as they first come up, so that the same lots always bear the same numbers.
def numbered(values):
    numbers = {}
    for value in values:
        if value not in numbers:
            numbers[value] = len(numbers)
    return [numbers[value] for value in values]


def many_lots(lots):
    return max(lots) + 1


def first_rooms(lots):
    return [lots.index(lot) for lot in range(many_lots(lots))]


# Two rooms that round k is the first to part are led, by the first letter that can, to two that round k - 1 parts.
def parting_word(letters, ways, rounds, one, two):
    if rounds[-1][one] == rounds[-1][two]:
        return None
    needed = [lots[one] == lots[two] for lots in rounds].index(False)
    here = one
    there = two
    word = ""
    for lots in reversed(rounds[:needed]):
        place = [lots[goal] == lots[other] for goal, other in zip(ways[here], ways[there])].index(False)
        word = word + letters[place]
        here = ways[here][place]
        there = ways[there][place]
    return word


# The rooms of a walk lie in the order of their first words, and so do their lots.
def folded(walk, lots):
    rooms = first_rooms(lots)
    ways = [tuple([lots[goal] for goal in walk.ways[room]]) for room in rooms]
    marks = [walk.marks[room] for room in rooms]
    return (walk.letters, tuple(ways), tuple(marks))
