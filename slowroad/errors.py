"""The refusals: each stands right under RoadError, so that none is taken for another one."""


class RoadError(ValueError):
    pass


class NoFrame(RoadError):
    def __init__(self, frame):
        self.frame = frame


class Spoilt(RoadError):
    def __init__(self, frame):
        self.frame = frame


class NoPiece(RoadError):
    def __init__(self, what):
        self.what = what


class BadRoad(RoadError):
    def __init__(self, at):
        self.at = at


class BadPair(RoadError):
    pass


class BadTurn(RoadError):
    def __init__(self, turn):
        self.turn = turn


class BadTerms(RoadError):
    pass


class NotWide(RoadError):
    def __init__(self, least):
        self.least = least


class BadText(RoadError):
    pass


class NotNow(RoadError):
    def __init__(self, state, wish):
        self.state = state
        self.wish = wish


class BadWish(RoadError):
    def __init__(self, at):
        self.at = at


class NoRow(RoadError):
    def __init__(self, at):
        self.at = at
