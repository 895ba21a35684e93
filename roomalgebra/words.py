"""Words over letters, in their one row: the shorter first, then by the letters' order."""

from roomalgebra.checks import is_whole, need_letters, need_word
from roomalgebra.errors import NoNumber

LONGEST_TOLD = 200


def earlier(letters, one, two):
    need_letters(letters)
    need_word(letters, one)
    need_word(letters, two)
    if len(one) != len(two):
        return len(one) < len(two)
    for sign, other in zip(one, two):
        if sign != other:
            return letters.index(sign) < letters.index(other)
    return False


# Each sign counts from 1 and not from 0, so that no word shares its number with a shorter one.
def number_of(letters, word):
    need_letters(letters)
    need_word(letters, word)
    number = 0
    for sign in word:
        number = number * len(letters) + letters.index(sign) + 1
    return number


# The length is watched sign by sign: over one letter a great number would else be walked down by ones.
def word_of(letters, number):
    need_letters(letters)
    if not is_whole(number) or number < 0:
        raise NoNumber("no number from 0 on")
    signs = []
    rest = number
    while rest > 0:
        if len(signs) == LONGEST_TOLD:
            raise NoNumber(f"its word has more than {LONGEST_TOLD} signs")
        rest = rest - 1
        signs.append(letters[rest % len(letters)])
        rest = rest // len(letters)
    return "".join(reversed(signs))


# Not by way of the numbers, as word_of ends at a length at which words go on.
def next_word(letters, word):
    need_letters(letters)
    need_word(letters, word)
    stem = word.rstrip(letters[-1])
    if stem == "":
        return letters[0] * (len(word) + 1)
    step = letters[letters.index(stem[-1]) + 1]
    return stem[:-1] + step + letters[0] * (len(word) - len(stem))
