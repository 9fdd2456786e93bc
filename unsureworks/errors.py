"""All errors of the package: each stands directly under UnsureError."""


class UnsureError(ValueError):
    """What all errors of the package have in common."""


class Unfit(UnsureError):
    """An argument does not fit what is asked."""

    def __init__(self):
        pass


class TooMany(UnsureError):
    """There is more of something than limit."""

    def __init__(self, limit):
        self.limit = limit


class NoQuotient(UnsureError):
    """There is no quotient by 0."""

    def __init__(self):
        pass


class NoChance(UnsureError):
    """What was seen has the chance 0."""

    def __init__(self):
        pass


class BadText(UnsureError):
    """A text is not written as it should be, first at place."""

    def __init__(self, place):
        self.place = place


class BadSpread(UnsureError):
    """A value is no spread, for the reason error."""

    def __init__(self, error):
        self.error = error


class BadWorld(UnsureError):
    """A value is no world, for the reason error."""

    def __init__(self, error):
        self.error = error


class BadProgram(UnsureError):
    """A value is no program or no content, for the reason error."""

    def __init__(self, error):
        self.error = error


class BadSaying(UnsureError):
    """A value is no saying or no remark, for the reason error."""

    def __init__(self, error):
        self.error = error


class BelowAt(UnsureError):
    """What should nowhere be below 0 is so at place."""

    def __init__(self, place):
        self.place = place


class NoPoint(UnsureError):
    """A body holds at no point, as paper shows."""

    def __init__(self, paper):
        self.paper = paper


class Endless(UnsureError):
    """A body has a volume, but no bound."""

    def __init__(self):
        pass


class Shared(UnsureError):
    """A draw is met twice or more."""

    def __init__(self, draw):
        self.draw = draw


class NotParts(UnsureError):
    """A name is that of a choice, which is not made of parts."""

    def __init__(self, name):
        self.name = name


class BadName(UnsureError):
    """What was given is no name that can stand there."""

    def __init__(self, given):
        self.given = given


class InUse(UnsureError):
    """A name is used by name, be it another name or the place of a remark."""

    def __init__(self, name):
        self.name = name


class Rings(UnsureError):
    """A name would hang on itself."""

    def __init__(self, name):
        self.name = name


class BadBatch(UnsureError):
    """A batch is no tuple of edits."""

    def __init__(self):
        pass


class Rejected(UnsureError):
    """The edit at place in a batch raised an error."""

    def __init__(self, place):
        self.place = place


class TooManyEdits(UnsureError):
    """As many edits stand as may stand."""

    def __init__(self):
        pass


class NothingToUndo(UnsureError):
    """No edit stands that could be taken back."""

    def __init__(self):
        pass


class NothingToRedo(UnsureError):
    """No edit was taken back that could be done again."""

    def __init__(self):
        pass


class NoVersion(UnsureError):
    """What was given is no version of the sheet."""

    def __init__(self, given):
        self.given = given


class Changed(UnsureError):
    """The kept remark would be too unlikely; chance is None if it could not be asked for."""

    def __init__(self, chance):
        self.chance = chance
