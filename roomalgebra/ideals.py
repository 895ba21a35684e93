"""Which acts of a machine lie below which, the lots of those that lie below one another, and the groups among them."""

from roomalgebra.acts import act_of, table, walked_acts
from roomalgebra.alike import numbered


# Two acts lie below one another just where the same acts lie below both.
def lots_of_acts(machine):
    rows = table(machine)
    return list(zip(numbered(right_below(rows)), numbered(left_below(rows)), numbered(below(rows))))


# The words are first ones of their acts, of at most thirty-nine signs.
def lead_over(machine, one, two):
    first = act_of(machine, one)
    second = act_of(machine, two)
    walk = walked_acts(machine)
    start = walk.things.index(first)
    goal = walk.things.index(second)
    rows = table(machine)
    for ahead, row in zip(walk.words, rows):
        led = rows[row[start]]
        if goal in led:
            return (ahead, walk.words[led.index(goal)])
    return None


def groups_of(machine):
    rows = table(machine)
    onces = [place for place, row in enumerate(rows) if row[place] == place]
    return [(once, members_of(rows, once)) for once in onces]


def members_of(rows, once):
    kept = [place for place, row in enumerate(rows) if rows[once][place] == place and row[once] == place]
    return [place for place in kept if any([rows[place][back] == once and rows[back][place] == once for back in kept])]


# Each of these three tells, for each act of a table, the places of those that lie so below it.
def right_below(rows):
    return each_once(rows)


def left_below(rows):
    return each_once([[row[place] for row in rows] for place in range(len(rows))])


# What lies below an act lies right below one that lies left below it.
def below(rows):
    lists = []
    for places in left_below(rows):
        found = []
        for place in places:
            found.extend(rows[place])
        lists.append(found)
    return each_once(lists)


# Put in order, so that the same places always make the same tuple.
def each_once(lists):
    return [tuple(sorted(set(places))) for places in lists]
