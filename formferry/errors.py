"""The refusals: each of its own class, all of them beneath FerryError."""


class FerryError(ValueError):
    pass


class Twice(FerryError):
    def __init__(self, name):
        self.name = name


class NoName(FerryError):
    def __init__(self, name):
        self.name = name


class Stars(FerryError):
    def __init__(self, name):
        self.name = name


class NoText(FerryError):
    def __init__(self, row):
        self.row = row


class NoPort(FerryError):
    def __init__(self, name):
        self.name = name


class Taken(FerryError):
    def __init__(self, name):
        self.name = name
