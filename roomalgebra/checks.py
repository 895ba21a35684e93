"""What every module asks of letters, words and numbers before it works with them."""

from roomalgebra.errors import NoLetters, NoWord, OtherLetters


# Python counts True and False among the ints; the document does not count them among the numbers.
def is_whole(value):
    return isinstance(value, int) and not isinstance(value, bool)


def is_letters(text):
    if not 1 <= len(text) <= 3:
        return False
    for sign in text:
        if not "a" <= sign <= "z" or text.count(sign) > 1:
            return False
    return True


def need_letters(letters):
    if not is_letters(letters):
        raise NoLetters(f"not one to three unlike signs from a to z: {letters!r}")


def need_word(letters, word):
    for sign in word:
        if sign not in letters:
            raise NoWord(f"{sign!r} is none of the letters {letters}")


# The same letters in another order are other letters: the rows of ways would not lead by the same signs.
def need_same_letters(machine, second):
    letters = machine[0]
    others = second[0]
    if letters != others:
        raise OtherLetters(f"one machine has the letters {letters}, the other one {others}")
