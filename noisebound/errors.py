"""The errors of the program. Each one is a direct subclass of NoiseboundError."""


class NoiseboundError(ValueError):
    """The base class of all errors of the program."""


class OutOfRange(NoiseboundError):
    """The argument of this name is not one of its allowed values."""

    def __init__(self, name):
        self.name = name


class BadItem(NoiseboundError):
    """The item at this index is not allowed."""

    def __init__(self, index):
        self.index = index


class BadLength(NoiseboundError):
    """There are not as many items as expected."""

    def __init__(self, expected, found):
        self.expected = expected
        self.found = found


class BadText(NoiseboundError):
    """The text is wrong at this index."""

    def __init__(self, index):
        self.index = index


class BadPadding(NoiseboundError):
    """The byte list is not the padded form of any byte list."""


class WrongPhase(NoiseboundError):
    """The sponge takes no more bytes."""


class NotInvertible(NoiseboundError):
    """The value has a divisor in common with the modulus."""

    def __init__(self, value):
        self.value = value


class BadRing(NoiseboundError):
    """The numbers of a ring break this demand."""

    def __init__(self, demand):
        self.demand = demand


class BadParameters(NoiseboundError):
    """The numbers of a parameter set break this demand."""

    def __init__(self, demand):
        self.demand = demand


class UnknownName(NoiseboundError):
    """There is nothing of this name."""

    def __init__(self, name):
        self.name = name


class DifferentRings(NoiseboundError):
    """The two operands belong to unequal rings."""


class BadKey(NoiseboundError):
    """The public key or secret key has this fault at this place."""

    def __init__(self, fault, place):
        self.fault = fault
        self.place = place


class BadLetter(NoiseboundError):
    """The letter has this fault at this place."""

    def __init__(self, fault, place):
        self.fault = fault
        self.place = place


class BadKeyText(NoiseboundError):
    """The key text has this fault at this line."""

    def __init__(self, line, fault):
        self.line = line
        self.fault = fault


class BadRecord(NoiseboundError):
    """The record has this fault."""

    def __init__(self, fault):
        self.fault = fault


class BadCommand(NoiseboundError):
    """The script line of this index has this fault at this place."""

    def __init__(self, fault, place, line):
        self.fault = fault
        self.place = place
        self.line = line


class NoEntry(NoiseboundError):
    """The book has no entry of this name."""

    def __init__(self, name):
        self.name = name


class NothingLeft(NoiseboundError):
    """There is nothing left for this deed."""

    def __init__(self, deed):
        self.deed = deed
