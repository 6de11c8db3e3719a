"""The refusals: each is a class of its own, straight under RankError."""


class RankError(ValueError):
    pass


class NoWord(RankError):
    pass


class NoMachine(RankError):
    pass


class NoRoom(RankError):
    pass


class NoText(RankError):
    pass


class NoLoop(RankError):
    pass


class NoKind(RankError):
    pass


class NoPaper(RankError):
    pass


class OtherLetters(RankError):
    pass


class NoFraction(RankError):
    pass


class NoLine(RankError):
    pass


class NoName(RankError):
    pass


class NoEnd(RankError):
    pass


class NotSettled(RankError):
    def __init__(self, front, one, other):
        self.front = front
        self.one = one
        self.other = other
