"""The refusals: one class for each, all under WebError."""


class WebError(ValueError):
    pass


class NoWeb(WebError):
    def __init__(self, words, place=None):
        WebError.__init__(self, words)
        self.place = place


class NoTie(WebError):
    def __init__(self, words, tie=None):
        WebError.__init__(self, words)
        self.tie = tie


class NoText(WebError):
    pass


class NoForest(WebError):
    pass


class NoOrder(WebError):
    pass


class NoHours(WebError):
    pass


class NoArrows(WebError):
    pass


class Apart(WebError):
    pass


class NoTurns(WebError):
    pass


class NoFloor(WebError):
    pass


class NoMove(WebError):
    pass


class NoMatch(WebError):
    pass


class NoRow(WebError):
    pass


class NoName(WebError):
    pass
