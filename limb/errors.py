"""All refusals, one class for each of them."""


class LimbError(ValueError):
    pass


class NoDeed(LimbError):
    pass


class Twin(LimbError):

    def __init__(self, name):
        self.name = name


class NoPlace(LimbError):
    pass


class NoText(LimbError):
    pass


class Taken(LimbError):
    pass


class NoItem(LimbError):

    def __init__(self, name):
        self.name = name


class Beneath(LimbError):
    pass


class Far(LimbError):
    pass


class NoQuestion(LimbError):

    def __init__(self, at):
        self.at = at


class NoRow(LimbError):
    pass
