"""The refusals: one class for each, all of them under ClothError."""


class ClothError(ValueError):
    pass


class NoLine(ClothError):
    pass


class TwoColours(ClothError):
    pass


class TooMany(ClothError):
    pass


class NoHole(ClothError):
    pass


class NoDrawing(ClothError):
    pass


class NoThread(ClothError):
    pass


# Taken and NotWished call no __init__ of their base: Python keeps face and line as
# what the error was made with all the same, so that it can be copied and made again.
class Taken(ClothError):
    def __init__(self, face, line):
        self.face = face
        self.line = line


class NoName(ClothError):
    pass


class NoTie(ClothError):
    pass


class NoPlan(ClothError):
    pass


class NoNumber(ClothError):
    pass


class Busy(ClothError):
    pass


class Idle(ClothError):
    pass


class NotWished(ClothError):
    def __init__(self, face, line):
        self.face = face
        self.line = line


class Bare(ClothError):
    pass


class NoChart(ClothError):
    pass


class NoRow(ClothError):
    pass
