"""The refusals of the program, all of them under one name."""


class ChartError(ValueError):
    pass


class BadChart(ChartError):
    pass


class TooMany(ChartError):
    pass


class Clash(ChartError):
    def __init__(self, events, first, second):
        ChartError.__init__(self, f"arrows {first} and {second} clash")
        self.events = events
        self.first = first
        self.second = second
