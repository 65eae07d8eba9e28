"""The refusals of the program, one class for each."""


class PlayError(ValueError):
    pass


class BadBoard(PlayError):
    pass


class BadGame(PlayError):
    pass


class BadLine(PlayError):
    def __init__(self, at):
        PlayError.__init__(self, f"the line at {at} can't stand there")
        self.at = at


class BadPlace(PlayError):
    pass


class NoMove(PlayError):
    pass


class TooWide(PlayError):
    pass


class NoWord(PlayError):
    pass


class Over(PlayError):
    pass


class NothingBack(PlayError):
    pass
