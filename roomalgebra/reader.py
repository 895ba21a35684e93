"""Texts read as patterns."""

from roomalgebra.checks import need_letters
from roomalgebra.errors import NoPattern
from roomalgebra.patterns import Again, AnySign, Both, Either, Empty, Less, Never, Outside, Sign, Then, Turned
from roomalgebra.signs import KINDS, STRENGTHS


def read(letters, text):
    need_letters(letters)
    need_pattern(letters, text)
    return pattern_of(text)


# Whatever is let by can be gone on with to a whole pattern, so the first sign that is not let by ends the beginning.
def need_pattern(letters, text):
    depth = 0
    wanting = True
    for at, sign in enumerate(text):
        if not can_stand(letters, sign, wanting, depth):
            raise NoPattern(at)
        if sign == "(":
            depth = depth + 1
        if sign == ")":
            depth = depth - 1
        wanting = is_wanting(sign)
    if wanting or depth > 0:
        raise NoPattern(len(text))


def can_stand(letters, sign, wanting, depth):
    if sign in letters or sign in "01.!<(":
        return True
    if sign == ")":
        return depth > 0 and not wanting
    return sign in "*&|-" and not wanting


# Behind these signs something must come; behind all others a pattern may end.
def is_wanting(sign):
    return sign in "!<(&|-"


# The patterns that are read, and the kinds and brackets that wait for what stands to their right.
class Desk:
    def __init__(self):
        self.patterns = []
        self.waiting = []


# Brackets around the whole make its end like that of any other brackets.
def pattern_of(text):
    desk = Desk()
    for token in tokens_of("(" + text + ")"):
        put(desk, token)
    return desk.patterns[0]


# A token is a kind, a bracket or a letter; where things stand behind one another, a then is put between them.
def tokens_of(text):
    tokens = []
    wanting = True
    for sign in text:
        if not wanting and sign not in "*&|-)":
            tokens.append("then")
        tokens.append(KINDS.get(sign, sign))
        wanting = is_wanting(sign)
    return tokens


def put(desk, token):
    if token in ("(", "outside", "turned"):
        desk.waiting.append(token)
    elif token in ("either", "less", "both", "then"):
        settle(desk, STRENGTHS[token])
        desk.waiting.append(token)
    elif token == ")":
        settle(desk, 1)
        desk.waiting.pop()
    elif token == "again":
        desk.patterns.append(Again(desk.patterns.pop()))
    else:
        desk.patterns.append(piece_of(token))


# What binds as strongly as what comes, or more strongly, stands to its left and is taken together first.
def settle(desk, strength):
    while STRENGTHS.get(desk.waiting[-1], 0) >= strength:
        kind = desk.waiting.pop()
        last = desk.patterns.pop()
        if kind == "outside":
            desk.patterns.append(Outside(last))
        elif kind == "turned":
            desk.patterns.append(Turned(last))
        else:
            desk.patterns.append(pair_of(kind, desk.patterns.pop(), last))


def piece_of(token):
    if token == "never":
        return Never()
    if token == "empty":
        return Empty()
    if token == "any":
        return AnySign()
    return Sign(token)


def pair_of(kind, left, right):
    if kind == "either":
        return Either(left, right)
    if kind == "less":
        return Less(left, right)
    if kind == "both":
        return Both(left, right)
    return Then(left, right)
