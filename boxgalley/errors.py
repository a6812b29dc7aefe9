"""What the program refuses, one class for each refusal."""


class BoxError(ValueError):
    pass


class BadBox(BoxError):
    def __init__(self, name):
        self.name = name


class NoTree(BoxError):
    pass


class TooGreat(BoxError):
    def __init__(self, name):
        self.name = name


class Ring(BoxError):
    def __init__(self, names):
        # Without this the error would keep the very list that was handed in.
        BoxError.__init__(self, list(names))
        self.names = list(names)


class TooWide(BoxError):
    def __init__(self, name):
        self.name = name


class NoRows(BoxError):
    pass


class NoPages(BoxError):
    def __init__(self, first, last):
        self.first = first
        self.last = last


class NoBox(BoxError):
    def __init__(self, name):
        self.name = name


class NoEdit(BoxError):
    pass


class NotTurned(BoxError):
    def __init__(self, name):
        self.name = name


class NoFloor(BoxError):
    def __init__(self, name):
        self.name = name


class NoRead(BoxError):
    pass


class NoName(BoxError):
    pass


class NoNumber(BoxError):
    pass


class NoRow(BoxError):
    pass
