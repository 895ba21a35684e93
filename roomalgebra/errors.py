"""The refusals, each a class of its own straight under RoomError."""


class RoomError(ValueError):
    pass


class NoLetters(RoomError):
    pass


class NoWord(RoomError):
    pass


class NoNumber(RoomError):
    pass


class NoRoom(RoomError):
    pass


class NoMachine(RoomError):
    pass


class OtherLetters(RoomError):
    pass


# The lists are copied here so that whoever takes the error owns them, wherever it was raised.
class TooMany(RoomError):
    def __init__(self, words, tails, part):
        RoomError.__init__(self, "the least machine has more than eight rooms")
        self.words = list(words)
        self.tails = list(tails)
        self.part = part


class NoPattern(RoomError):
    def __init__(self, at):
        RoomError.__init__(self, f"no pattern begins with more than the first {at} signs")
        self.at = at


class TooGreat(RoomError):
    def __init__(self, words):
        RoomError.__init__(self, "there are more than forty acts")
        self.words = list(words)


class NoKind(RoomError):
    pass
