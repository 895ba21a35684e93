"""The machines of patterns, made of their shapes part by part."""

from roomalgebra.errors import TooMany
from roomalgebra.joins import again, both, either, less, outside, then, turned
from roomalgebra.least import least


# Every part's machine is made, even where the whole could be told without it: one that is too great is refused.
def machine_of(letters, shape):
    kind = shape[0]
    if kind == "sign" or len(shape) == 1:
        return piece_machine(letters, shape)
    machines = [machine_of(letters, part) for part in shape[1:]]
    try:
        return joined(kind, machines)
    except TooMany as refusal:
        raise TooMany(refusal.words, refusal.tails, shape) from None


def piece_machine(letters, shape):
    kind = shape[0]
    if kind == "sign":
        return short_machine(letters, False, shape[1])
    return short_machine(letters, kind == "empty", letters if kind == "any" else "")


# Room 1 is come to by one of the signs, room 2 by whatever is none of them or goes on.
def short_machine(letters, with_empty, signs):
    begin = tuple([1 if letter in signs else 2 for letter in letters])
    shut = tuple([2 for letter in letters])
    return least((letters, (begin, shut, shut), (with_empty, True, False)))


def joined(kind, machines):
    one = machines[0]
    if kind == "outside":
        return outside(one)
    if kind == "turned":
        return turned(one)
    if kind == "again":
        return again(one)
    two = machines[1]
    if kind == "either":
        return either(one, two)
    if kind == "less":
        return less(one, two)
    if kind == "both":
        return both(one, two)
    return then(one, two)
