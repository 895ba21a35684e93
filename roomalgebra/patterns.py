"""Patterns: what they are made of, their shapes, their texts and their machines."""

from roomalgebra.checks import need_letters
from roomalgebra.shapes import machine_of
from roomalgebra.signs import text_of


class Pattern:
    def shape(self):
        raise NotImplementedError("each kind of pattern tells its own shape")

    def text(self):
        return text_of(self.shape())

    def machine(self, letters):
        need_letters(letters)
        return machine_of(letters, self.shape())


class Never(Pattern):
    def shape(self):
        return ("never",)


class Empty(Pattern):
    def shape(self):
        return ("empty",)


class Sign(Pattern):
    def __init__(self, sign):
        self.sign = sign

    def shape(self):
        return ("sign", self.sign)


class AnySign(Pattern):
    def shape(self):
        return ("any",)


class Pair(Pattern):
    def __init__(self, left, right):
        self.left = left
        self.right = right


class Either(Pair):
    def shape(self):
        return ("either", self.left.shape(), self.right.shape())


class Less(Pair):
    def shape(self):
        return ("less", self.left.shape(), self.right.shape())


class Both(Pair):
    def shape(self):
        return ("both", self.left.shape(), self.right.shape())


class Then(Pair):
    def shape(self):
        return ("then", self.left.shape(), self.right.shape())


class Around(Pattern):
    def __init__(self, inner):
        self.inner = inner


class Outside(Around):
    def shape(self):
        return ("outside", self.inner.shape())


class Turned(Around):
    def shape(self):
        return ("turned", self.inner.shape())


class Again(Around):
    def shape(self):
        return ("again", self.inner.shape())
