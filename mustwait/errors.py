"""The errors of the library: one base class and its direct subclasses."""


class StoreError(Exception):
    """The base class of all errors of this library."""


class NoKind(StoreError):
    """What was passed makes no kind."""


class NoObject(StoreError):
    """No object has this place."""

    def __init__(self, place):
        self.place = place


class NoOperation(StoreError):
    """The kind of the object has no such operation."""

    def __init__(self, operation):
        self.operation = operation


class NotOpen(StoreError):
    """No open transaction has this number."""

    def __init__(self, number):
        self.number = number


class IsWaiting(StoreError):
    """The transaction has a wish that waits."""

    def __init__(self, number):
        self.number = number


class Never(StoreError):
    """What the transaction asked for is never answered."""

    def __init__(self, number):
        self.number = number


class Full(StoreError):
    """No transaction can begin; the holders keep the log from being folded."""

    def __init__(self, holders):
        self.holders = holders


class TooMany(StoreError):
    """There is more to look at than this limit."""

    def __init__(self, most):
        self.most = most


class InvalidText(StoreError):
    """The value is no text of what was to be read."""


class InvalidCommand(StoreError):
    """The value is no command that the console can execute."""
