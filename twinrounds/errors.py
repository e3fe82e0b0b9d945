"""The refusals: a class for each, and RoundError above them all."""


class RoundError(ValueError):
    pass


class TooGreat(RoundError):
    def __init__(self, number, most):
        RoundError.__init__(self, f"{number} is above {most}")
        self.number = number
        self.most = most


class NoWord(RoundError):
    def __init__(self, word):
        RoundError.__init__(self, f"{word!r} is no word here")
        self.word = word


class NoThing(RoundError):
    def __init__(self, thing):
        RoundError.__init__(self, f"{thing} is no thing of the world")
        self.thing = thing


class NoName(RoundError):
    def __init__(self, name):
        RoundError.__init__(self, f"the name {name} stands for nothing")
        self.name = name


class NoSaying(RoundError):
    def __init__(self, line):
        RoundError.__init__(self, f"{line!r} shows no saying")
        self.line = line


class Unlike(RoundError):
    pass


class NoPointing(RoundError):
    pass
