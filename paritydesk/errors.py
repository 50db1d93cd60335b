"""The refusals of the program, each a class of its own under ParityError."""


class ParityError(ValueError):
    pass


class NoDesk(ParityError):
    pass


class NotIn(ParityError):
    pass


class Unlike(ParityError):
    pass


class NoPlace(ParityError):
    pass


class BadText(ParityError):
    pass


class BadWords(ParityError):
    def __init__(self, at):
        if at is None:
            ParityError.__init__(self, "no list of few enough words, or no size")
        else:
            ParityError.__init__(self, f"no word of the size at place {at}")
        self.at = at
