"""The refusals, one class for each."""


class FlowError(ValueError):
    pass


class BadWeb(FlowError):
    pass


class TooMany(FlowError):
    pass


class BadPlace(FlowError):
    pass


class BadTie(FlowError):
    pass


class BadFlow(FlowError):
    pass


class BadRest(FlowError):
    pass


class NoFlow(FlowError):
    def __init__(self, tie):
        self.tie = tie


class BadSet(FlowError):
    pass


class BadPaper(FlowError):
    pass


class BadText(FlowError):
    def __init__(self, at):
        self.at = at


class BadDeed(FlowError):
    def __init__(self, at):
        self.at = at
