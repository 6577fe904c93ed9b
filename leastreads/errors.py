"""The errors of the package."""


class LeastError(Exception):
    """The base of the errors of this package that tell of what was asked for."""


class InvalidSum(LeastError):
    """What should be a sum, or a part of one, is none."""

    def __init__(self, value):
        self.value = value


class InvalidData(LeastError):
    """What should be data is none."""

    def __init__(self, value):
        self.value = value


class InvalidTable(LeastError):
    """A table is wrong at a place."""

    def __init__(self, place):
        self.place = place


class InvalidSpots(LeastError):
    """What should be spots is none."""

    def __init__(self, value):
        self.value = value


class InvalidPieces(LeastError):
    """What should be pieces is none."""

    def __init__(self, value):
        self.value = value


class InvalidCost(LeastError):
    """What should be a cost, or a part of one, is none."""

    def __init__(self, value):
        self.value = value


class InvalidWishes(LeastError):
    """What should be wishes is none."""

    def __init__(self, value):
        self.value = value


class InvalidStored(LeastError):
    """What should be stored pieces is none."""

    def __init__(self, value):
        self.value = value


class InvalidPlacing(LeastError):
    """What should be a placing is none."""

    def __init__(self, value):
        self.value = value


class InvalidOperand(LeastError):
    """An operation is not defined for the other object."""

    def __init__(self, other):
        self.other = other


class InvalidNumber(LeastError):
    """What should be a number within limits is none."""

    def __init__(self, value):
        self.value = value


class LimitExceeded(LeastError):
    """A task is larger than a limit allows."""

    def __init__(self, limit):
        self.limit = limit


class Lost(LeastError):
    """What is wished cannot be had, as these data show."""

    def __init__(self, blind):
        self.blind = blind


class Unsure(LeastError):
    """What is found does not tell one answer."""

    def __init__(self, found):
        self.found = found


class Unseen(LeastError):
    """A group of wrong pieces can stay unseen, as these data show."""

    def __init__(self, group, blind):
        self.group = group
        self.blind = blind


class NoWay(LeastError):
    """There is no way, as these blocks show."""

    def __init__(self, blocks):
        self.blocks = blocks


class InvalidChange(LeastError):
    """What should be a change is none."""

    def __init__(self, value):
        self.value = value


class InvalidName(LeastError):
    """What should be a name is none."""

    def __init__(self, value):
        self.value = value


class InvalidText(LeastError):
    """A text is wrong at a place."""

    def __init__(self, place):
        self.place = place


class InvalidCommand(LeastError):
    """A command is wrong at a word."""

    def __init__(self, word):
        self.word = word


class Unsafe(LeastError):
    """There is no safe order, as these blocks show."""

    def __init__(self, blocks):
        self.blocks = blocks


class UnknownName(LookupError):
    """No object has this name."""

    def __init__(self, name):
        self.name = name


class Halted(RuntimeError):
    """The store is halted by a write to the object of this name."""

    def __init__(self, name):
        self.name = name


class NotHalted(RuntimeError):
    """The store is not halted."""


class NothingToUndo(RuntimeError):
    """There is no deed to take back."""


class NoTable(RuntimeError):
    """There is no table yet."""
