"""The refusals: one class for each, all of them straight under PromiseError."""


class PromiseError(ValueError):
    pass


class NoBoxes(PromiseError):
    pass


class NoCond(PromiseError):
    pass


class NoHand(PromiseError):
    pass


class NoHouse(PromiseError):
    pass


class NoStart(PromiseError):
    pass


class NoStep(PromiseError):
    def __init__(self, place):
        self.place = place


class NoPaper(PromiseError):
    pass


class NoProgram(PromiseError):
    pass


class NoText(PromiseError):
    pass


class NoName(PromiseError):
    pass


class NoRow(PromiseError):
    pass


class TooMany(PromiseError):
    pass
