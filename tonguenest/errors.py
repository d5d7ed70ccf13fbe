"""The refusals of the program, one class for each kind."""


class NestError(ValueError):
    """Any refusal."""


class NoPlace(NestError):
    """A place, or a stretch of places, that is not there."""


class TooMany(NestError):
    """More signs than a page may have."""


class Nothing(NestError):
    """There is no change to take back."""


class NoDoor(NestError):
    """A door that the book does not have."""


class NoWay(NestError):
    """A text that cannot be put behind a door."""


class NoTongue(NestError):
    """A tongue that the book does not have."""


class NoText(NestError):
    """What is not written as a book is."""


class NoRow(NestError):
    """What is not a row of a desk."""
