"""The errors of the package. Each field holds the very value that was passed."""


class CarryError(ValueError):
    """The base of the errors about wrong arguments; it is never raised itself."""


class InvalidNet(CarryError):
    """The value is not a net; the part and the index tell the first violation."""

    def __init__(self, part, index):
        self.part = part
        self.index = index


class InvalidPhases(CarryError):
    """The value is not a state of the net."""

    def __init__(self, index):
        self.index = index


class InvalidTicks(CarryError):
    """The value is not a tick vector of the net."""

    def __init__(self, index):
        self.index = index


class InvalidWalk(CarryError):
    """The value is not a walk in the net."""

    def __init__(self, index):
        self.index = index


class InvalidCounter(CarryError):
    """The value is not a counter of the net."""

    def __init__(self, counter):
        self.counter = counter


class InvalidTimes(CarryError):
    """The value is not an allowed number of times."""

    def __init__(self, times):
        self.times = times


class InvalidReading(CarryError):
    """The value is not a reading of the odometer."""

    def __init__(self, number):
        self.number = number


class InvalidAnswer(CarryError):
    """The value is not a correct answer."""

    def __init__(self, part):
        self.part = part


class TooLarge(CarryError):
    """There is more than the limit allows."""

    def __init__(self, limit):
        self.limit = limit


class InvalidPrices(CarryError):
    """The values are not prices of the inputs."""

    def __init__(self, index):
        self.index = index


class InvalidDrive(CarryError):
    """The value is not a drive."""

    def __init__(self, part):
        self.part = part


class InvalidText(CarryError):
    """The value is not a text of the wanted kind."""

    def __init__(self, word):
        self.word = word


class NotPositive(CarryError):
    """A wire of the net has a negative weight."""

    def __init__(self, index):
        self.index = index


class CarryStateError(RuntimeError):
    """The base of the errors about what is not possible here; it is never raised itself."""


class NotAnInput(CarryStateError):
    """The counter cannot be ticked from outside."""

    def __init__(self, counter):
        self.counter = counter


class NothingToUndo(CarryStateError):
    """The history holds fewer calls than are to be undone."""

    def __init__(self, action):
        self.action = action
